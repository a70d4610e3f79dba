import Derived.Test.YtehfhconhcefbaaLhe
import Derived.Test.YtehfhconhcefbaaLhf
import Derived.Test.YtehfhconhcefbaaLhg
namespace Go.Proofs.Ytehfhconhcefbaa
open Go Go.RowKit Go.Sort

theorem height_law (a b : V) (w : World) :
    Calls Try.prog 7 #[a.val, b.val] w fun e w' => e = .returned (.bool true) ∧ Below w.heap.size w w' := by
  rcases V.cases (join_sane a vbot) with hx | hx | ⟨n, hn, hn', hx⟩ <;> rcases V.cases (join_sane b vbot) with hy | hy | ⟨m, hm, hm', hy⟩
  · exact height_0 a b hx hy w
  · exact height_1 a b hx hy w
  · exact height_2 a b m ⟨hm, hm'⟩ hx hy w
  · exact height_3 a b hx hy w
  · exact height_4 a b hx hy w
  · exact height_5 a b m ⟨hm, hm'⟩ hx hy w
  · exact height_6 a b n ⟨hn, hn'⟩ hx hy w
  · exact height_7 a b n ⟨hn, hn'⟩ hx hy w
  · by_cases h : n = m
    · exact height_8 a b n ⟨hn, hn'⟩ hx (by rw [hy, h]) w
    · exact height_9 a b n ⟨hn, hn'⟩ m ⟨hm, hm'⟩ h hx hy w
end Go.Proofs.Ytehfhconhcefbaa
