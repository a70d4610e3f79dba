package wire

import (
	"iter"

	"bywash/api"
)

// numbers are where the numbers of a step go, in order, and how many bytes each has. Which ones there are hangs on Ask and Op as they are when they are asked: so a step may be filled in while they are told.
func numbers(s *api.Step) iter.Seq2[*int, int] {
	return func(yield func(*int, int) bool) {
		if s.Ask {
			q := &s.Q
			tell(yield, &q.Op, &q.F, &q.B, &q.To, &q.Pos, &q.V)
			return
		}
		e, i := &s.E, &s.E.I
		if !tell(yield, &e.Op, &e.F, &e.B, &e.To, &e.Other, &e.Pos) || e.Op != api.Insert {
			return
		}
		if tell(yield, &i.Id, &i.Kind, &i.Dst, &i.A, &i.B) && yield(&i.C, long) {
			tell(yield, &i.F, &i.N, &i.Args[0], &i.Args[1], &i.Args[2])
		}
	}
}

// tell tells numbers in a byte; false, if no more are wanted.
func tell(yield func(*int, int) bool, l ...*int) bool {
	for _, at := range l {
		if !yield(at, short) {
			return false
		}
	}
	return true
}

func putStep(s api.Step) []byte {
	b := []byte{0}
	if s.Ask {
		b[0] = 1
	}
	for at, size := range numbers(&s) {
		b = appendNumber(b, *at, size)
	}
	return b
}

func getStep(r *reader) api.Step {
	s := api.Step{Ask: r.next()%2 == 1}
	for at, size := range numbers(&s) {
		*at = r.number(size)
	}
	return s
}
