package scc

// stack is what lies one on the other: what was put last is on top.
type stack[T any] struct{ lie []T }

func (s *stack[T]) empty() bool { return len(s.lie) == 0 }

func (s *stack[T]) height() int { return len(s.lie) }

func (s *stack[T]) put(x T) { s.lie = append(s.lie, x) }

// top points into the stack, so it holds till the next one is put or taken.
func (s *stack[T]) top() *T { return &s.lie[len(s.lie)-1] }

func (s *stack[T]) take() T { return s.takeFrom(s.height() - 1)[0] }

// takeFrom takes all that lies at that height and above; it holds till the next one is put.
func (s *stack[T]) takeFrom(height int) []T {
	taken := s.lie[height:]
	s.lie = s.lie[:height]
	return taken
}
