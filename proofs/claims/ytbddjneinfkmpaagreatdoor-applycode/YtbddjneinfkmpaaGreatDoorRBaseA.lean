/- A row's base for package apply's statements: two tables, an edit, a program with room in its lists. -/
import Derived.Test.YtbddjneinfkmpaaGreatDoorRBaseQ
import Derived.Test.YtbddjneinfkmpaaGreatDoorROpenW
