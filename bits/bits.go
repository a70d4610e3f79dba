// Package bits is layer 1, sets of small numbers: see shared/doc/01-bits.md.
package bits

import (
	"iter"
	mathbits "math/bits"
	"slices"
)

const (
	maxN     = 1024
	wordSize = 64
)

// Set is numbers below N.
type Set struct {
	N int
	W []uint64
}

// New is a set without numbers.
func New(n int) Set {
	n = min(max(n, 0), maxN)
	return Set{N: n, W: make([]uint64, wordsFor(n))}
}

// Sane: may a set be?
func Sane(s Set) bool {
	if s.N < 0 || s.N > maxN || len(s.W) != wordsFor(s.N) {
		return false
	}
	used := s.N % wordSize
	return used == 0 || s.W[len(s.W)-1]>>used == 0
}

// Has: is a number in a set?
func Has(s Set, i int) bool { return has(saneOrEmpty(s), i) }

// With is a set with a number.
func With(s Set, i int) Set {
	c := copyOf(s)
	put(c, i)
	return c
}

// Without is a set without a number.
func Without(s Set, i int) Set {
	c := copyOf(s)
	if fits(c, i) {
		c.W[i/wordSize] &^= digit(i)
	}
	return c
}

// Union is what is in one of both.
func Union(a, b Set) Set {
	return combine(a, b, func(x, y uint64) uint64 { return x | y })
}

// Minus is what is in the first one alone.
func Minus(a, b Set) Set {
	return combine(a, b, func(x, y uint64) uint64 { return x &^ y })
}

// Meet is what is in both.
func Meet(a, b Set) Set {
	return combine(a, b, func(x, y uint64) uint64 { return x & y })
}

// Leq: is all of the first one in the second one?
func Leq(a, b Set) bool {
	b = saneOrEmpty(b)
	for i := range numbers(saneOrEmpty(a)) {
		if !has(b, i) {
			return false
		}
	}
	return true
}

// Same: are two the same?
func Same(a, b Set) bool {
	a, b = saneOrEmpty(a), saneOrEmpty(b)
	return a.N == b.N && slices.Equal(a.W, b.W)
}

// List is a set's numbers.
func List(s Set) []int {
	var l []int
	for i := range numbers(saneOrEmpty(s)) {
		l = append(l, i)
	}
	return l
}

// Count is how many there are.
func Count(s Set) int {
	n := 0
	for range numbers(saneOrEmpty(s)) {
		n++
	}
	return n
}

// Of is the set of some numbers.
func Of(n int, l []int) Set {
	s := New(n)
	for _, i := range l {
		put(s, i)
	}
	return s
}

// numbers tells what is in a sane set, rising.
func numbers(s Set) iter.Seq[int] {
	return func(yield func(int) bool) {
		for k, w := range s.W {
			for w != 0 {
				if !yield(k*wordSize + mathbits.TrailingZeros64(w)) {
					return
				}
				w &= w - 1 // takes the lowest digit away, the one just told
			}
		}
	}
}

// combine makes a set of the greater N out of what each pair of words makes.
// No digit from N on gets in: word is to make 0 of 0 and 0.
func combine(a, b Set, word func(x, y uint64) uint64) Set {
	a, b = saneOrEmpty(a), saneOrEmpty(b)
	c := New(max(a.N, b.N))
	for k := range c.W {
		c.W[k] = word(wordAt(a, k), wordAt(b, k))
	}
	return c
}

// saneOrEmpty lets every call take a set that may not be for the empty one.
func saneOrEmpty(s Set) Set {
	if !Sane(s) {
		return New(0)
	}
	return s
}

// copyOf has words of its own, so that they may be written.
func copyOf(s Set) Set {
	s = saneOrEmpty(s)
	return Set{N: s.N, W: slices.Clone(s.W)}
}

// put writes into s: only for a set that its caller has just made.
func put(s Set, i int) {
	if fits(s, i) {
		s.W[i/wordSize] |= digit(i)
	}
}

func has(s Set, i int) bool { return fits(s, i) && s.W[i/wordSize]&digit(i) != 0 }

func fits(s Set, i int) bool { return 0 <= i && i < s.N }

func digit(i int) uint64 { return 1 << (i % wordSize) }

func wordsFor(n int) int { return (n + wordSize - 1) / wordSize }

// wordAt lets the shorter of two sets be read as long as the other one.
func wordAt(s Set, k int) uint64 {
	if k >= len(s.W) {
		return 0
	}
	return s.W[k]
}
