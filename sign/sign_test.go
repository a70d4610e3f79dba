package sign_test

import (
	"math"
	"math/big"
	"slices"
	"testing"

	"bywash/api"
	"bywash/flat"
	"bywash/sign"
)

// The sets are written as numbers, so that no call under test makes what it is tested with.
const sets = 8

// listed are the signs of each set, written by hand.
var listed = [sets][]int{{}, {-1}, {0}, {-1, 0}, {1}, {-1, 1}, {0, 1}, {-1, 0, 1}}

// notSane are sets that may not be: beside the bounds, those whose lowest digits are a set's, and the ends of int.
func notSane() []int {
	l := []int{math.MinInt, math.MinInt + 1, math.MinInt + 7, -1 << 32, -9, -8, -7, -4, -3, -2, -1}
	return append(l, 8, 9, 10, 12, 15, 16, 77, 1<<31, 1<<32, 1<<32+1, 1<<32+7, 1<<62+2, math.MaxInt-1, math.MaxInt)
}

// numbers are those whose signs are asked for: all small ones, the bounds of constants and of int.
func numbers() []int {
	l := []int{math.MinInt, math.MinInt + 1, api.MinConst - 1, api.MinConst, api.MinConst + 1, -1 << 32}
	for n := -5; n <= 5; n++ {
		l = append(l, n)
	}
	return append(l, api.MaxConst-1, api.MaxConst, api.MaxConst+1, 1<<32, math.MaxInt-1, math.MaxInt)
}

// setOf is the set of one number's sign.
func setOf(n *big.Int) int { return []int{1, 2, 4}[n.Sign()+1] }

func large(n int) *big.Int { return big.NewInt(int64(n)) }

// smallOf are numbers whose signs are in a set: enough of each sign that sums of two signs come out as each that they may.
func smallOf(s int) []int {
	l := []int{}
	for n := -3; n <= 3; n++ {
		if setOf(large(n))&s != 0 {
			l = append(l, n)
		}
	}
	return l
}

// withTwo is a call of two sets, and what it does with two numbers, told apart from it.
type withTwo struct {
	name  string
	call  func(a, b int) int
	exact func(x, y *big.Int) *big.Int
}

func allWithTwo() []withTwo {
	return []withTwo{
		{"Add", sign.Add, func(x, y *big.Int) *big.Int { return new(big.Int).Add(x, y) }},
		{"Sub", sign.Sub, func(x, y *big.Int) *big.Int { return new(big.Int).Sub(x, y) }},
		{"Mul", sign.Mul, func(x, y *big.Int) *big.Int { return new(big.Int).Mul(x, y) }},
	}
}

// made are the signs of what comes of the small numbers of two sets.
func made(a, b int, exact func(x, y *big.Int) *big.Int) int {
	s := 0
	for _, x := range smallOf(a) {
		for _, y := range smallOf(b) {
			s |= setOf(exact(large(x), large(y)))
		}
	}
	return s
}

// P3.1

func TestSigns(t *testing.T) {
	if sign.Less != 1 || sign.Zero != 2 || sign.More != 4 || sign.All != 7 {
		t.Error(sign.Less, sign.Zero, sign.More, sign.All)
	}
}

func TestSane(t *testing.T) {
	for s := range sets {
		if !sign.Sane(s) {
			t.Error(s)
		}
	}
	for _, s := range notSane() {
		if sign.Sane(s) {
			t.Error(s)
		}
	}
}

func TestOf(t *testing.T) {
	for _, x := range []struct{ c, want int }{
		{math.MinInt, 1}, {api.MinConst, 1}, {-2, 1}, {-1, 1}, {0, 2}, {1, 4}, {2, 4}, {api.MaxConst, 4}, {math.MaxInt, 4},
		{1 << 31, 4}, {1 << 32, 4}, {-1 << 32, 1}, // a number of 32 digits would be below 0, and 0
	} {
		if got := sign.Of(x.c); got != x.want {
			t.Errorf("Of(%d) = %d, want %d", x.c, got, x.want)
		}
	}
	for _, c := range numbers() {
		if got, want := sign.Of(c), setOf(large(c)); got != want {
			t.Errorf("Of(%d) = %d, want %d", c, got, want)
		}
	}
}

func TestList(t *testing.T) {
	for s, want := range listed {
		if got := sign.List(s); !slices.Equal(got, want) {
			t.Errorf("List(%d) = %v, want %v", s, got, want)
		}
	}
}

func TestHeight(t *testing.T) {
	for s, want := range []int{0, 1, 1, 2, 1, 2, 2, 3} {
		if got := sign.Height(s); got != want {
			t.Errorf("Height(%d) = %d, want %d", s, got, want)
		}
	}
}

func TestJoinOfEachTwo(t *testing.T) {
	for a := range sets {
		for b := range sets {
			j := sign.Join(a, b)
			if !sign.Sane(j) {
				t.Error(a, b, j)
				continue
			}
			for _, x := range []int{-1, 0, 1} {
				inOne := slices.Contains(listed[a], x) || slices.Contains(listed[b], x)
				if slices.Contains(listed[j], x) != inOne {
					t.Errorf("Join(%d, %d) = %d: the sign %d", a, b, j, x)
				}
			}
		}
	}
}

func TestLeqOfEachTwo(t *testing.T) {
	for a := range sets {
		for b := range sets {
			want := true
			for _, x := range listed[a] {
				want = want && slices.Contains(listed[b], x)
			}
			if got := sign.Leq(a, b); got != want {
				t.Errorf("Leq(%d, %d) = %v", a, b, got)
			}
		}
	}
}

func TestNotSaneIsTakenForAll(t *testing.T) {
	for _, bad := range notSane() {
		if !slices.Equal(sign.List(bad), []int{-1, 0, 1}) || sign.Height(bad) != 3 || sign.Neg(bad) != 7 {
			t.Error(bad, sign.List(bad), sign.Height(bad), sign.Neg(bad))
		}
		for s := range sets {
			if sign.Join(bad, s) != 7 || sign.Join(s, bad) != 7 {
				t.Error(bad, s, "Join")
			}
			if !sign.Leq(s, bad) || sign.Leq(bad, s) != (s == 7) {
				t.Error(bad, s, "Leq")
			}
			for _, two := range allWithTwo() {
				if two.call(bad, s) != made(7, s, two.exact) || two.call(s, bad) != made(s, 7, two.exact) {
					t.Error(bad, s, two.name)
				}
			}
		}
	}
}

func TestTwoThatAreNotSane(t *testing.T) {
	for _, a := range notSane() {
		for _, b := range notSane() {
			if sign.Join(a, b) != 7 || !sign.Leq(a, b) {
				t.Error(a, b, "Join, Leq")
			}
			for _, two := range allWithTwo() {
				if two.call(a, b) != 7 {
					t.Error(a, b, two.name)
				}
			}
		}
	}
}

// P3.2

func TestWithTwoSigns(t *testing.T) {
	for _, x := range []struct{ a, b, add, sub, mul int }{
		{1, 1, 1, 7, 4}, {1, 2, 1, 1, 2}, {1, 4, 7, 1, 1},
		{2, 1, 1, 4, 2}, {2, 2, 2, 2, 2}, {2, 4, 4, 1, 2},
		{4, 1, 7, 4, 1}, {4, 2, 4, 4, 2}, {4, 4, 4, 7, 4},
	} {
		if sign.Add(x.a, x.b) != x.add || sign.Sub(x.a, x.b) != x.sub || sign.Mul(x.a, x.b) != x.mul {
			t.Error(x, sign.Add(x.a, x.b), sign.Sub(x.a, x.b), sign.Mul(x.a, x.b))
		}
	}
}

func TestTheDocumentsExample(t *testing.T) {
	if sign.Add(sign.More, sign.Less) != sign.All || sign.Add(sign.Less, sign.More) != sign.All {
		t.Error(sign.Add(sign.More, sign.Less), sign.Add(sign.Less, sign.More))
	}
}

func TestWithEachTwo(t *testing.T) {
	for _, two := range allWithTwo() {
		for a := range sets {
			for b := range sets {
				if got, want := two.call(a, b), made(a, b, two.exact); got != want {
					t.Errorf("%s(%d, %d) = %d, want %d", two.name, a, b, got, want)
				}
			}
		}
	}
}

func TestNoSignWithAnything(t *testing.T) {
	for _, two := range allWithTwo() {
		for _, s := range append(notSane(), 0, 1, 2, 3, 4, 5, 6, 7) {
			if two.call(0, s) != 0 || two.call(s, 0) != 0 {
				t.Error(two.name, s)
			}
		}
	}
}

func TestNeg(t *testing.T) {
	for s, want := range []int{0, 4, 2, 6, 1, 5, 3, 7} {
		if got := sign.Neg(s); got != want {
			t.Errorf("Neg(%d) = %d, want %d", s, got, want)
		}
	}
}

// P3.3

func TestFromFlat(t *testing.T) {
	for _, x := range []struct {
		v    flat.Val
		want int
	}{
		{flat.Val{K: 0}, 0}, {flat.Val{K: 2}, 7},
		{flat.Val{K: 1, C: -1 << 31}, 1}, {flat.Val{K: 1, C: -3}, 1}, {flat.Val{K: 1, C: -1}, 1},
		{flat.Val{K: 1, C: 0}, 2},
		{flat.Val{K: 1, C: 1}, 4}, {flat.Val{K: 1, C: 3}, 4}, {flat.Val{K: 1, C: 1<<31 - 1}, 4},
	} {
		if got := sign.FromFlat(x.v); got != x.want {
			t.Errorf("FromFlat(%v) = %d, want %d", x.v, got, x.want)
		}
	}
}

func TestFromFlatOfValuesThatMayNotBe(t *testing.T) {
	l := []flat.Val{}
	for _, k := range []int{math.MinInt, -1, 3, 9, 1 << 32, 1<<32 + 1, math.MaxInt} {
		for _, c := range []int{math.MinInt, -1, 0, 1, math.MaxInt} {
			l = append(l, flat.Val{K: k, C: c})
		}
	}
	for _, c := range []int{math.MinInt, -1, 1, math.MaxInt} {
		l = append(l, flat.Val{K: flat.Bot, C: c}, flat.Val{K: flat.Top, C: c})
	}
	for _, c := range []int{math.MinInt, -1<<31 - 1, 1 << 31, 1 << 32, math.MaxInt} {
		l = append(l, flat.Val{K: flat.One, C: c})
	}
	for _, v := range l {
		if got := sign.FromFlat(v); got != 7 {
			t.Errorf("FromFlat(%v) = %d, want 7", v, got)
		}
	}
}

// P3.4

func TestNoLessComesOfGreaterSets(t *testing.T) {
	calls := append(allWithTwo(), withTwo{name: "Join", call: sign.Join})
	for _, two := range calls {
		for a := -1; a <= sets; a++ {
			for b := -1; b <= sets; b++ {
				noLessAbove(t, two, a, b)
			}
		}
	}
}

// noLessAbove holds what comes of a and b against what comes of each two sets above them.
func noLessAbove(t *testing.T, two withTwo, a, b int) {
	for above := -1; above <= sets; above++ {
		for other := -1; other <= sets; other++ {
			if sign.Leq(a, above) && sign.Leq(b, other) && !sign.Leq(two.call(a, b), two.call(above, other)) {
				t.Error(two.name, a, above, b, other)
			}
		}
	}
}

func TestNoLessComesOfAGreaterSet(t *testing.T) {
	for a := -1; a <= sets; a++ {
		for b := -1; b <= sets; b++ {
			if sign.Leq(a, b) && (!sign.Leq(sign.Neg(a), sign.Neg(b)) || sign.Height(a) > sign.Height(b)) {
				t.Error(a, b)
			}
		}
	}
}

func TestNoLessComesOfAGreaterValue(t *testing.T) {
	values := []flat.Val{{K: 0}, {K: 1, C: api.MinConst}, {K: 1, C: -1}, {K: 1}, {K: 1, C: 1}, {K: 1, C: api.MaxConst}, {K: 2}, {K: 3}, {K: 0, C: 1}}
	for _, v := range values {
		for _, w := range values {
			if flat.Leq(v, w) && !sign.Leq(sign.FromFlat(v), sign.FromFlat(w)) {
				t.Error(v, w)
			}
		}
	}
}

func TestANumbersSignIsAmongThoseOfItsParts(t *testing.T) {
	for _, x := range numbers() {
		if n := setOf(new(big.Int).Neg(large(x))); n&sign.Neg(sign.Of(x)) == 0 {
			t.Error("Neg", x)
		}
		for _, y := range numbers() {
			for _, two := range allWithTwo() {
				n := setOf(two.exact(large(x), large(y)))
				if n&two.call(sign.Of(x), sign.Of(y)) == 0 {
					t.Error(two.name, x, y)
				}
			}
		}
	}
}

// P1 and the rules R1 to R4

func TestEveryCallAnswersAtAllArguments(t *testing.T) {
	all := append(notSane(), 0, 1, 2, 3, 4, 5, 6, 7)
	for _, a := range all {
		if h := sign.Height(a); h < 0 || h > 3 || h != len(sign.List(a)) {
			t.Error(a, h)
		}
		if n := sign.Neg(a); !sign.Sane(n) || n != sign.Neg(a) {
			t.Error(a, n)
		}
		if s := sign.Of(a); sign.Height(s) != 1 {
			t.Error(a, s)
		}
		for _, b := range all {
			if s := sign.FromFlat(flat.Val{K: a, C: b}); !sign.Sane(s) {
				t.Error(a, b, s)
			}
			for _, call := range []func(a, b int) int{sign.Join, sign.Add, sign.Sub, sign.Mul} {
				if s := call(a, b); !sign.Sane(s) || s != call(a, b) {
					t.Error(a, b, s)
				}
			}
		}
	}
}

func TestListIsNewMemory(t *testing.T) {
	for s, want := range listed {
		l := sign.List(s)
		for i := range l {
			l[i] = 9
		}
		_ = append(l, 9)
		if got := sign.List(s); !slices.Equal(got, want) {
			t.Errorf("List(%d) = %v, want %v", s, got, want)
		}
	}
}
