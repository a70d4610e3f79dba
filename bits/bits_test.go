package bits_test

import (
	"math"
	"slices"
	"testing"

	"bywash/bits"
)

// sizes are the N that the tests go over: the least, the greatest, and those beside a word's end.
var sizes = []int{0, 1, 5, 63, 64, 65, 70, 127, 128, 129, 1023, 1024}

// pair is a set, and its numbers told apart from it.
type pair struct {
	s  bits.Set
	in []int
}

// build writes the words by hand, so that no call under test makes what it is tested with.
func build(n int, in []int) pair {
	s := bits.Set{N: n, W: make([]uint64, (n+63)/64)}
	for _, i := range in {
		s.W[i/64] |= 1 << uint(i%64)
	}
	return pair{s, in}
}

// choose is the numbers of 0 to n - 1 that are taken, rising.
func choose(n int, take func(i int) bool) []int {
	l := []int{}
	for i := 0; i < n; i++ {
		if take(i) {
			l = append(l, i)
		}
	}
	return l
}

// samples are sets of n: none, all, one end, the other one, and some patterns.
func samples(n int) []pair {
	takes := []func(i int) bool{
		func(i int) bool { return false },
		func(i int) bool { return true },
		func(i int) bool { return i == 0 },
		func(i int) bool { return i == n-1 },
		func(i int) bool { return i%2 == 1 },
		func(i int) bool { return i%3 == 0 },
		func(i int) bool { return i%64 == 0 || i%64 == 63 },
		func(i int) bool { return i >= 64 },
	}
	l := []pair{}
	for _, take := range takes {
		l = append(l, build(n, choose(n, take)))
	}
	return l
}

func allSamples() []pair {
	l := []pair{}
	for _, n := range sizes {
		l = append(l, samples(n)...)
	}
	return l
}

// around are numbers at and beyond the ends of a set of n.
func around(n int) []int {
	return []int{
		math.MinInt, math.MinInt + 1, -1025, -1024, -65, -64, -63, -1, 0, 1, 2, 31, 32, 62, 63, 64, 65, 127, 128,
		n - 2, n - 1, n, n + 1, n + 63, n + 64, 1023, 1024, 1025, 1 << 32, math.MaxInt - 1, math.MaxInt,
	}
}

// notSane are sets that may not be.
func notSane() map[string]bits.Set {
	zeros := func(n int) []uint64 { return make([]uint64, n) }
	last := func(words int, w uint64) []uint64 { return append(zeros(words-1), w) }
	return map[string]bits.Set{
		"N -1, nil":               {N: -1},
		"N -1, a word":            {N: -1, W: last(1, 1)},
		"N -64, a word":           {N: -64, W: last(1, 1)},
		"N least":                 {N: math.MinInt},
		"N least, a word":         {N: math.MinInt, W: last(1, 1)},
		"N greatest":              {N: math.MaxInt},
		"N greatest, words":       {N: math.MaxInt, W: last(16, 1)},
		"N 1025, all words":       {N: 1025, W: last(17, 1)},
		"N 1025, sixteen words":   {N: 1025, W: last(16, 1)},
		"N 1088, all words":       {N: 1088, W: last(17, 1)},
		"N 0, a word":             {N: 0, W: zeros(1)},
		"N 0, a digit":            {N: 0, W: last(1, 1)},
		"N 1, nil":                {N: 1},
		"N 5, nil":                {N: 5},
		"N 5, no words":           {N: 5, W: zeros(0)},
		"N 5, too many words":     {N: 5, W: []uint64{1, 0}},
		"N 5, digit 5":            {N: 5, W: last(1, 32)},
		"N 5, digits 0 and 5":     {N: 5, W: last(1, 33)},
		"N 5, digit 63":           {N: 5, W: last(1, 1<<63)},
		"N 63, digit 63":          {N: 63, W: last(1, 1<<63)},
		"N 64, nil":               {N: 64},
		"N 64, too many words":    {N: 64, W: []uint64{1, 0}},
		"N 65, too few words":     {N: 65, W: last(1, 1)},
		"N 65, too many words":    {N: 65, W: zeros(3)},
		"N 65, digit 65":          {N: 65, W: last(2, 2)},
		"N 65, digit 127":         {N: 65, W: last(2, 1<<63)},
		"N 70, digits from 70 on": {N: 70, W: []uint64{math.MaxUint64, math.MaxUint64}},
		"N 1023, digit 1023":      {N: 1023, W: last(16, 1<<63)},
		"N 1024, too few words":   {N: 1024, W: last(15, 1)},
		"N 1024, too many words":  {N: 1024, W: zeros(17)},
	}
}

// expect holds a set against an N and numbers, word by word.
func expect(t *testing.T, what string, got bits.Set, n int, in []int) {
	t.Helper()
	want := build(n, in).s
	if got.N != want.N || !slices.Equal(got.W, want.W) {
		t.Errorf("%s: got %v, want %v", what, got, want)
	}
}

// P1.1

func TestNewHasNoNumber(t *testing.T) {
	for _, n := range sizes {
		expect(t, "New", bits.New(n), n, nil)
	}
}

func TestNewBringsSizeToBounds(t *testing.T) {
	for _, x := range []struct{ n, want int }{
		{math.MinInt, 0}, {-64, 0}, {-1, 0}, {0, 0}, {1, 1}, {1023, 1023}, {1024, 1024}, {1025, 1024}, {1 << 32, 1024}, {math.MaxInt, 1024},
	} {
		expect(t, "New", bits.New(x.n), x.want, nil)
		expect(t, "Of", bits.Of(x.n, nil), x.want, nil)
	}
}

func TestSaneSets(t *testing.T) {
	for n := 0; n <= 1024; n++ {
		if !bits.Sane(bits.New(n)) {
			t.Error("New", n)
		}
	}
	for _, p := range allSamples() {
		if !bits.Sane(p.s) {
			t.Error(p.s)
		}
	}
	if !bits.Sane(bits.Set{}) || !bits.Sane(bits.Set{W: []uint64{}}) {
		t.Error("N of 0, with nil and with an empty list")
	}
}

func TestSetsThatAreNotSane(t *testing.T) {
	for name, s := range notSane() {
		if bits.Sane(s) {
			t.Error(name)
		}
	}
}

func TestEachDigitFromNOnIsNotSane(t *testing.T) {
	for _, n := range []int{1, 5, 63, 65, 70, 127, 129, 1023} {
		for d := 0; d < (n+63)/64*64; d++ {
			s := build(n, nil).s
			s.W[d/64] = 1 << uint(d%64)
			if bits.Sane(s) != (d < n) {
				t.Error(n, d)
			}
		}
	}
}

func TestNotSaneIsTakenForNew0(t *testing.T) {
	for name, bad := range notSane() {
		for _, i := range around(bad.N) {
			if bits.Has(bad, i) {
				t.Error(name, "Has", i)
			}
			expect(t, name+": With", bits.With(bad, i), 0, nil)
			expect(t, name+": Without", bits.Without(bad, i), 0, nil)
		}
		if len(bits.List(bad)) != 0 || bits.Count(bad) != 0 {
			t.Error(name, "List, Count")
		}
		for _, p := range allSamples() {
			expect(t, name+": Union, first", bits.Union(bad, p.s), p.s.N, p.in)
			expect(t, name+": Union, second", bits.Union(p.s, bad), p.s.N, p.in)
			expect(t, name+": Minus, first", bits.Minus(bad, p.s), p.s.N, nil)
			expect(t, name+": Minus, second", bits.Minus(p.s, bad), p.s.N, p.in)
			expect(t, name+": Meet, first", bits.Meet(bad, p.s), p.s.N, nil)
			expect(t, name+": Meet, second", bits.Meet(p.s, bad), p.s.N, nil)
			if !bits.Leq(bad, p.s) || bits.Leq(p.s, bad) != (len(p.in) == 0) {
				t.Error(name, "Leq", p.s)
			}
			if bits.Same(bad, p.s) != (p.s.N == 0) || bits.Same(p.s, bad) != (p.s.N == 0) {
				t.Error(name, "Same", p.s)
			}
		}
	}
}

func TestTwoThatAreNotSane(t *testing.T) {
	for name, a := range notSane() {
		for other, b := range notSane() {
			expect(t, name+", "+other+": Union", bits.Union(a, b), 0, nil)
			expect(t, name+", "+other+": Minus", bits.Minus(a, b), 0, nil)
			expect(t, name+", "+other+": Meet", bits.Meet(a, b), 0, nil)
			if !bits.Leq(a, b) || !bits.Same(a, b) {
				t.Error(name, other)
			}
		}
	}
}

// P1.2

func TestHas(t *testing.T) {
	for _, p := range allSamples() {
		for i := 0; i < p.s.N; i++ {
			if bits.Has(p.s, i) != slices.Contains(p.in, i) {
				t.Error(p.s, i)
			}
		}
		for _, i := range around(p.s.N) {
			if bits.Has(p.s, i) != slices.Contains(p.in, i) {
				t.Error(p.s, i)
			}
		}
	}
}

func TestWith(t *testing.T) {
	for _, p := range allSamples() {
		for _, i := range around(p.s.N) {
			may := 0 <= i && i < p.s.N
			want := choose(p.s.N, func(j int) bool { return slices.Contains(p.in, j) || may && j == i })
			expect(t, "With", bits.With(p.s, i), p.s.N, want)
		}
	}
}

func TestWithout(t *testing.T) {
	for _, p := range allSamples() {
		for _, i := range around(p.s.N) {
			want := choose(p.s.N, func(j int) bool { return slices.Contains(p.in, j) && j != i })
			expect(t, "Without", bits.Without(p.s, i), p.s.N, want)
		}
	}
}

// P1.3

func TestUnionMinusMeet(t *testing.T) {
	for _, a := range allSamples() {
		for _, b := range allSamples() {
			n := max(a.s.N, b.s.N)
			inA, inB := make([]bool, n), make([]bool, n)
			for _, i := range a.in {
				inA[i] = true
			}
			for _, i := range b.in {
				inB[i] = true
			}
			expect(t, "Union", bits.Union(a.s, b.s), n, choose(n, func(i int) bool { return inA[i] || inB[i] }))
			expect(t, "Minus", bits.Minus(a.s, b.s), n, choose(n, func(i int) bool { return inA[i] && !inB[i] }))
			expect(t, "Meet", bits.Meet(a.s, b.s), n, choose(n, func(i int) bool { return inA[i] && inB[i] }))
		}
	}
}

func TestLeq(t *testing.T) {
	for _, a := range allSamples() {
		for _, b := range allSamples() {
			want := true
			for _, i := range a.in {
				want = want && slices.Contains(b.in, i)
			}
			if bits.Leq(a.s, b.s) != want {
				t.Error(a.s, b.s)
			}
		}
	}
}

func TestLeqAsksForEachNumber(t *testing.T) {
	all := build(129, choose(129, func(int) bool { return true }))
	for i := 0; i < 129; i++ {
		but := build(129, choose(129, func(j int) bool { return j != i }))
		if bits.Leq(all.s, but.s) || !bits.Leq(but.s, all.s) {
			t.Error(i)
		}
	}
}

func TestSame(t *testing.T) {
	for _, a := range allSamples() {
		for _, b := range allSamples() {
			if bits.Same(a.s, b.s) != (a.s.N == b.s.N && slices.Equal(a.in, b.in)) {
				t.Error(a.s, b.s)
			}
		}
	}
	if bits.Same(bits.New(4), bits.New(5)) || bits.Same(bits.New(64), bits.New(65)) {
		t.Error("two of different N, without numbers")
	}
	if !bits.Same(bits.Set{}, bits.Set{W: []uint64{}}) {
		t.Error("no words, nil and not")
	}
}

// P1.4

func TestListAndCount(t *testing.T) {
	for _, p := range allSamples() {
		if l := bits.List(p.s); !slices.Equal(l, p.in) {
			t.Error(p.s, l)
		}
		if n := bits.Count(p.s); n != len(p.in) {
			t.Error(p.s, n)
		}
	}
}

func TestOf(t *testing.T) {
	for _, p := range allSamples() {
		expect(t, "Of, rising", bits.Of(p.s.N, p.in), p.s.N, p.in)
		falling := slices.Clone(p.in)
		slices.Reverse(falling)
		expect(t, "Of, falling, twice", bits.Of(p.s.N, append(falling, p.in...)), p.s.N, p.in)
	}
}

func TestOfLeavesOutWhatMayNotBe(t *testing.T) {
	for _, n := range sizes {
		want := choose(n, func(i int) bool { return slices.Contains(around(n), i) })
		expect(t, "Of", bits.Of(n, around(n)), n, want)
	}
	expect(t, "Of, N below 0", bits.Of(-1, []int{-1, 0, 1}), 0, nil)
	expect(t, "Of, N above 1024", bits.Of(2000, []int{1023, 1024, 1500}), 1024, []int{1023})
}

func TestExampleOf(t *testing.T) {
	s := bits.Of(70, []int{3, 65})
	if s.N != 70 || !slices.Equal(s.W, []uint64{8, 2}) {
		t.Error(s)
	}
}

// P1.5

func TestWithANumberHasItAndNoOtherOneMore(t *testing.T) {
	for _, p := range samples(129) {
		for i := 0; i < 129; i++ {
			s := bits.With(p.s, i)
			if !bits.Has(s, i) || bits.Has(bits.Without(s, i), i) {
				t.Error(p.s, i)
			}
			if bits.Count(s) != bits.Count(bits.Without(p.s, i))+1 {
				t.Error(p.s, i, "Count")
			}
			for j := 0; j < 129; j++ {
				if j != i && bits.Has(s, j) != bits.Has(p.s, j) {
					t.Error(p.s, i, j)
				}
			}
		}
	}
}

func below(a, b bits.Set) bool { return bits.Leq(a, b) && !bits.Same(a, b) }

func TestGreatestChainIsOneLongerThanN(t *testing.T) {
	for n := 0; n <= 7; n++ {
		sets := []bits.Set{}
		for m := 0; m < 1<<n; m++ {
			sets = append(sets, bits.Of(n, choose(n, func(i int) bool { return m>>i&1 == 1 })))
		}
		// What is below a set has the lesser digits: each set's chain is known ahead of those above it.
		longest, chain := 0, make([]int, len(sets))
		for k, s := range sets {
			chain[k] = 1
			for j := range k {
				if below(s, sets[j]) {
					t.Fatal("below, but greater", s, sets[j])
				}
				if below(sets[j], s) {
					chain[k] = max(chain[k], chain[j]+1)
				}
			}
			longest = max(longest, chain[k])
		}
		if longest != n+1 {
			t.Error(n, longest)
		}
	}
}

func TestChainOfEachSize(t *testing.T) {
	for _, n := range sizes {
		s, long := bits.New(n), 1
		for i := -1; i <= n; i++ {
			if more := bits.With(s, i); below(s, more) {
				s, long = more, long+1
			}
		}
		if long != n+1 || bits.Count(s) != n {
			t.Error(n, long)
		}
	}
}

// P1 and the rules R1 to R4

// sets are all that a call's argument may be, sane and not.
func sets() []bits.Set {
	l := []bits.Set{{}, {W: []uint64{}}}
	for _, p := range allSamples() {
		l = append(l, p.s)
	}
	for _, s := range notSane() {
		l = append(l, s)
	}
	return l
}

func cloneSet(s bits.Set) bits.Set { return bits.Set{N: s.N, W: slices.Clone(s.W)} }

func equalSets(a, b bits.Set) bool { return a.N == b.N && slices.Equal(a.W, b.W) }

// spoil writes over a whole answer: what shares memory with it is to be seen then.
func spoil(s bits.Set) {
	for k := range s.W {
		s.W[k] ^= math.MaxUint64
	}
}

func TestOfOneSetNothingIsChangedOrShared(t *testing.T) {
	for _, s := range sets() {
		was := cloneSet(s)
		bits.Sane(s)
		bits.Count(s)
		for _, i := range around(s.N) {
			bits.Has(s, i)
			with, without := bits.With(s, i), bits.Without(s, i)
			if !bits.Sane(with) || !bits.Sane(without) {
				t.Error(s, i)
			}
			spoil(with)
			spoil(without)
		}
		for k, l := 0, bits.List(s); k < len(l); k++ {
			l[k] = -1
		}
		if !equalSets(s, was) {
			t.Error(was, s)
		}
	}
}

func TestOfTwoSetsNothingIsChangedOrShared(t *testing.T) {
	for _, a := range sets() {
		for _, b := range sets() {
			wasA, wasB := cloneSet(a), cloneSet(b)
			bits.Leq(a, b)
			bits.Same(a, b)
			for _, c := range []bits.Set{bits.Union(a, b), bits.Minus(a, b), bits.Meet(a, b)} {
				if !bits.Sane(c) {
					t.Error(a, b, c)
				}
				spoil(c)
			}
			if !equalSets(a, wasA) || !equalSets(b, wasB) {
				t.Error(wasA, wasB)
			}
		}
	}
}

func TestOfAListNothingIsChanged(t *testing.T) {
	l := []int{65, 3, -1, 70, 3}
	was := slices.Clone(l)
	spoil(bits.Of(70, l))
	if !slices.Equal(l, was) {
		t.Error(l)
	}
}

func TestNewIsNewMemory(t *testing.T) {
	for _, n := range sizes {
		spoil(bits.New(n))
		expect(t, "New", bits.New(n), n, nil)
	}
}
