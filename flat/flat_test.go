package flat_test

import (
	"math"
	"math/big"
	"testing"

	"bywash/api"
	"bywash/flat"
)

// The values are written by hand, so that no call under test makes what it is tested with.
var bot, top = flat.Val{K: 0}, flat.Val{K: 2}

func one(c int) flat.Val { return flat.Val{K: 1, C: c} }

// numbers are those a value may hold: the least, the greatest, those beside them, and some whose products leave the range.
var numbers = []int{
	api.MinConst, api.MinConst + 1, api.MinConst + 2, -1 << 30, -65537, -65536, -46341, -7, -3, -2, -1,
	0, 1, 2, 3, 5, 46340, 46341, 65535, 65536, 65537, 1 << 30, 1<<30 + 1, api.MaxConst - 2, api.MaxConst - 1, api.MaxConst,
}

// wide are numbers of all of int: both sides of each bound, and of those of 32 and 33 digits.
func wide() []int {
	l := []int{math.MinInt, math.MinInt + 1, math.MaxInt - 1, math.MaxInt}
	for _, at := range []int{0, 1 << 31, 1 << 32, 3 << 31, 1 << 33, 1 << 62} {
		for d := -3; d <= 3; d++ {
			l = append(l, at+d, -at+d)
		}
	}
	return append(l, numbers...)
}

func samples() []flat.Val {
	l := []flat.Val{bot, top}
	for _, c := range numbers {
		l = append(l, one(c))
	}
	return l
}

// notSane are values that may not be.
func notSane() []flat.Val {
	l := []flat.Val{}
	for _, k := range []int{math.MinInt, -2, -1, 3, 4, 1 << 32, 1<<32 + 1, 1<<32 + 2, math.MaxInt} {
		for _, c := range []int{math.MinInt, -1, 0, 1, 7, math.MaxInt} {
			l = append(l, flat.Val{K: k, C: c})
		}
	}
	for _, c := range []int{math.MinInt, api.MinConst, -1, 1, 2, api.MaxConst, 1 << 31, 1 << 32, math.MaxInt} {
		l = append(l, flat.Val{K: flat.Bot, C: c}, flat.Val{K: flat.Top, C: c})
	}
	for _, c := range []int{math.MinInt, -1 << 32, api.MinConst - 2, api.MinConst - 1, api.MaxConst + 1, api.MaxConst + 2, 1 << 32, 1<<32 + 1, math.MaxInt} {
		l = append(l, flat.Val{K: flat.One, C: c})
	}
	return l
}

// wrapped counts without end, and brings n into the range by what is left of 2^32.
func wrapped(n *big.Int) int {
	whole := big.NewInt(1 << 32)
	left := new(big.Int).Mod(n, whole) // never below 0
	if left.Cmp(big.NewInt(api.MaxConst)) > 0 {
		left.Sub(left, whole)
	}
	return int(left.Int64())
}

func large(n int) *big.Int { return big.NewInt(int64(n)) }

// withTwo is a call of two values, and what it does with two numbers, told apart from it.
type withTwo struct {
	name  string
	call  func(a, b flat.Val) flat.Val
	exact func(x, y *big.Int) *big.Int
}

func allWithTwo() []withTwo {
	return []withTwo{
		{"Add", flat.Add, func(x, y *big.Int) *big.Int { return new(big.Int).Add(x, y) }},
		{"Sub", flat.Sub, func(x, y *big.Int) *big.Int { return new(big.Int).Sub(x, y) }},
		{"Mul", flat.Mul, func(x, y *big.Int) *big.Int { return new(big.Int).Mul(x, y) }},
	}
}

// P2.1

func TestKinds(t *testing.T) {
	if flat.Bot != 0 || flat.One != 1 || flat.Top != 2 {
		t.Error(flat.Bot, flat.One, flat.Top)
	}
}

func TestSaneValues(t *testing.T) {
	for _, v := range samples() {
		if !flat.Sane(v) {
			t.Error(v)
		}
	}
}

func TestValuesThatAreNotSane(t *testing.T) {
	for _, v := range notSane() {
		if flat.Sane(v) {
			t.Error(v)
		}
	}
}

func TestSaneAtTheBounds(t *testing.T) {
	for _, x := range []struct {
		c    int
		sane bool
	}{
		{-1<<31 - 1, false}, {-1 << 31, true}, {-1<<31 + 1, true}, {1<<31 - 2, true}, {1<<31 - 1, true}, {1 << 31, false},
	} {
		if flat.Sane(one(x.c)) != x.sane {
			t.Error(x.c)
		}
	}
}

func TestWrap(t *testing.T) {
	for _, x := range []struct{ n, want int }{
		{0, 0}, {1, 1}, {-1, -1},
		{1<<31 - 1, 1<<31 - 1}, {1 << 31, -1 << 31}, {1<<31 + 1, -1<<31 + 1},
		{-1 << 31, -1 << 31}, {-1<<31 + 1, -1<<31 + 1}, {-1<<31 - 1, 1<<31 - 1}, {-1<<31 - 2, 1<<31 - 2},
		{1<<32 - 1, -1}, {1 << 32, 0}, {1<<32 + 5, 5}, {-1 << 32, 0}, {-1<<32 - 5, -5}, {-1<<32 + 1, 1},
		{3 << 31, -1 << 31}, {math.MinInt, 0}, {math.MinInt + 1, 1}, {math.MaxInt, -1}, {math.MaxInt - 1, -2},
	} {
		if got := flat.Wrap(x.n); got != x.want {
			t.Errorf("Wrap(%d) = %d, want %d", x.n, got, x.want)
		}
	}
	for _, n := range wide() {
		if got, want := flat.Wrap(n), wrapped(large(n)); got != want {
			t.Errorf("Wrap(%d) = %d, want %d", n, got, want)
		}
	}
}

func TestWrapAtEachDigit(t *testing.T) {
	for d := range 64 {
		for _, n := range []int{1 << d, 1<<d - 1, 1<<d + 1, -(1 << d), -(1 << d) - 1, -(1 << d) + 1} {
			if got, want := flat.Wrap(n), wrapped(large(n)); got != want {
				t.Errorf("Wrap(%d) = %d, want %d", n, got, want)
			}
		}
	}
}

func TestOf(t *testing.T) {
	for _, c := range wide() {
		if got, want := flat.Of(c), one(wrapped(large(c))); got != want {
			t.Errorf("Of(%d) = %v, want %v", c, got, want)
		}
	}
	for _, c := range numbers {
		if flat.Of(c) != one(c) {
			t.Error("a number of the range stays", c)
		}
	}
}

func TestHeight(t *testing.T) {
	if flat.Height(bot) != 0 || flat.Height(top) != 2 {
		t.Error(flat.Height(bot), flat.Height(top))
	}
	for _, c := range numbers {
		if h := flat.Height(one(c)); h != 1 {
			t.Error(c, h)
		}
	}
}

func TestNotSaneIsTakenForTop(t *testing.T) {
	for _, bad := range notSane() {
		if flat.Height(bad) != 2 || flat.Neg(bad) != top {
			t.Error(bad, "Height, Neg")
		}
		for _, v := range samples() {
			if flat.Join(bad, v) != top || flat.Join(v, bad) != top {
				t.Error(bad, v, "Join")
			}
			if !flat.Leq(v, bad) || flat.Leq(bad, v) != (v == top) {
				t.Error(bad, v, "Leq")
			}
			want := top
			if v == bot {
				want = bot
			}
			for _, two := range allWithTwo() {
				if two.call(bad, v) != want || two.call(v, bad) != want {
					t.Error(bad, v, two.name)
				}
			}
		}
	}
}

func TestTwoThatAreNotSane(t *testing.T) {
	for _, a := range notSane() {
		for _, b := range notSane() {
			if flat.Join(a, b) != top || !flat.Leq(a, b) {
				t.Error(a, b, "Join, Leq")
			}
			for _, two := range allWithTwo() {
				if two.call(a, b) != top {
					t.Error(a, b, two.name)
				}
			}
		}
	}
}

// P2.2

func TestLeqAndJoinOfAllKinds(t *testing.T) {
	for _, x := range []struct {
		a, b, join flat.Val
		leq        bool
	}{
		{bot, bot, bot, true}, {bot, one(0), one(0), true}, {bot, one(-7), one(-7), true}, {bot, top, top, true},
		{one(0), bot, one(0), false}, {one(-7), bot, one(-7), false},
		{one(0), one(0), one(0), true}, {one(-7), one(-7), one(-7), true},
		{one(0), one(1), top, false}, {one(1), one(0), top, false}, {one(-7), one(7), top, false},
		{one(api.MinConst), one(api.MaxConst), top, false}, {one(api.MaxConst), one(api.MinConst), top, false},
		{one(0), top, top, true}, {one(5), top, top, true},
		{top, bot, top, false}, {top, one(0), top, false}, {top, one(5), top, false}, {top, top, top, true},
	} {
		if got := flat.Leq(x.a, x.b); got != x.leq {
			t.Errorf("Leq(%v, %v) = %v", x.a, x.b, got)
		}
		if got := flat.Join(x.a, x.b); got != x.join {
			t.Errorf("Join(%v, %v) = %v, want %v", x.a, x.b, got, x.join)
		}
	}
}

func TestLeqOfEachTwo(t *testing.T) {
	for i, a := range samples() {
		for j, b := range samples() {
			if flat.Leq(a, b) != (a == bot || b == top || i == j) {
				t.Error(a, b)
			}
		}
	}
}

func TestJoinIsTheLeastAboveBoth(t *testing.T) {
	for _, a := range samples() {
		for _, b := range samples() {
			j := flat.Join(a, b)
			if !flat.Sane(j) || !flat.Leq(a, j) || !flat.Leq(b, j) {
				t.Error(a, b, j, "is not above both")
			}
			for _, c := range samples() {
				if flat.Leq(a, c) && flat.Leq(b, c) && !flat.Leq(j, c) {
					t.Error(a, b, j, "is not the least: there is", c)
				}
			}
		}
	}
}

// P2.3

func TestWithTwoNumbers(t *testing.T) {
	for _, two := range allWithTwo() {
		for _, x := range numbers {
			for _, y := range numbers {
				want := one(wrapped(two.exact(large(x), large(y))))
				if got := two.call(one(x), one(y)); got != want {
					t.Errorf("%s(%d, %d) = %v, want %v", two.name, x, y, got, want)
				}
			}
		}
	}
}

func TestWithBotOrTop(t *testing.T) {
	for _, two := range allWithTwo() {
		for _, v := range samples() {
			if two.call(bot, v) != bot || two.call(v, bot) != bot {
				t.Error(two.name, v, "Bot")
			}
			if v != bot && (two.call(top, v) != top || two.call(v, top) != top) {
				t.Error(two.name, v, "Top")
			}
		}
	}
}

func TestNeg(t *testing.T) {
	if flat.Neg(bot) != bot || flat.Neg(top) != top {
		t.Error(flat.Neg(bot), flat.Neg(top))
	}
	for _, c := range numbers {
		if got, want := flat.Neg(one(c)), one(wrapped(new(big.Int).Neg(large(c)))); got != want {
			t.Errorf("Neg(%d) = %v, want %v", c, got, want)
		}
	}
}

func TestResultsAtTheBounds(t *testing.T) {
	const least, greatest = -1 << 31, 1<<31 - 1
	for _, x := range []struct {
		name string
		got  flat.Val
		want int
	}{
		{"the document's example", flat.Add(one(1<<31-1), one(1)), -1 << 31},
		{"least less 1", flat.Sub(one(least), one(1)), greatest},
		{"least and least added", flat.Add(one(least), one(least)), 0},
		{"least and -1 added", flat.Add(one(least), one(-1)), greatest},
		{"greatest twice", flat.Add(one(greatest), one(greatest)), -2},
		{"0 less least", flat.Sub(one(0), one(least)), least},
		{"greatest less -1", flat.Sub(one(greatest), one(-1)), least},
		{"greatest less least", flat.Sub(one(greatest), one(least)), -1},
		{"least negated", flat.Neg(one(least)), least},
		{"greatest negated", flat.Neg(one(greatest)), least + 1},
		{"least times -1", flat.Mul(one(least), one(-1)), least},
		{"least times least", flat.Mul(one(least), one(least)), 0},
		{"greatest times greatest", flat.Mul(one(greatest), one(greatest)), 1},
		{"least times greatest", flat.Mul(one(least), one(greatest)), least},
		{"2^16 times 2^16", flat.Mul(one(1<<16), one(1<<16)), 0},
		{"2^16 times 2^15", flat.Mul(one(1<<16), one(1<<15)), least},
		{"46341 times 46341", flat.Mul(one(46341), one(46341)), 46341*46341 - 1<<32},
	} {
		if x.got != one(x.want) {
			t.Errorf("%s: %v, want %d", x.name, x.got, x.want)
		}
	}
}

func TestSubIsNotTurnedRound(t *testing.T) {
	if flat.Sub(one(5), one(3)) != one(2) || flat.Sub(one(3), one(5)) != one(-2) {
		t.Error(flat.Sub(one(5), one(3)), flat.Sub(one(3), one(5)))
	}
}

func TestZeroTimesTopIsTop(t *testing.T) {
	if flat.Mul(one(0), top) != top || flat.Mul(top, one(0)) != top {
		t.Error(flat.Mul(one(0), top), flat.Mul(top, one(0)))
	}
}

// P2.4

// few are enough of each kind to hold every two against every two.
func few() []flat.Val {
	return []flat.Val{bot, one(api.MinConst), one(-1), one(0), one(1), one(2), one(api.MaxConst), top, {K: 3}, {K: 0, C: 1}, {K: 2, C: 1}, {K: 1, C: 1 << 31}}
}

func TestNoLessComesOfGreaterOnes(t *testing.T) {
	calls := append(allWithTwo(), withTwo{name: "Join", call: flat.Join})
	for _, two := range calls {
		for _, a := range few() {
			for _, above := range few() {
				for _, b := range few() {
					for _, other := range few() {
						if flat.Leq(a, above) && flat.Leq(b, other) && !flat.Leq(two.call(a, b), two.call(above, other)) {
							t.Error(two.name, a, above, b, other)
						}
					}
				}
			}
		}
	}
}

func TestNoLessComesOfAGreaterOne(t *testing.T) {
	for _, a := range samples() {
		for _, b := range samples() {
			if !flat.Leq(a, b) {
				continue
			}
			if !flat.Leq(flat.Neg(a), flat.Neg(b)) || flat.Height(a) > flat.Height(b) {
				t.Error(a, b)
			}
			if a != b && flat.Height(a) >= flat.Height(b) {
				t.Error(a, b, "is below, and no less high")
			}
		}
	}
}

func TestLeqIsAnOrder(t *testing.T) {
	for _, a := range samples() {
		if !flat.Leq(a, a) {
			t.Error(a)
		}
		for _, b := range samples() {
			if a != b && flat.Leq(a, b) && flat.Leq(b, a) {
				t.Error(a, b)
			}
			for _, c := range samples() {
				if flat.Leq(a, b) && flat.Leq(b, c) && !flat.Leq(a, c) {
					t.Error(a, b, c)
				}
			}
		}
	}
}

// P1 and the rules R1 to R4

// anything is values of any K and C: every call answers one that may be, and the same one again.
func anything() []flat.Val {
	l := []flat.Val{}
	for _, k := range []int{math.MinInt, -1, 0, 1, 2, 3, math.MaxInt} {
		for _, c := range []int{math.MinInt, api.MinConst - 1, api.MinConst, -1, 0, 1, api.MaxConst, api.MaxConst + 1, math.MaxInt} {
			l = append(l, flat.Val{K: k, C: c})
		}
	}
	return l
}

func TestEveryCallAnswersAtAllArguments(t *testing.T) {
	for _, a := range anything() {
		if h := flat.Height(a); h < 0 || h > 2 {
			t.Error(a, h)
		}
		if n := flat.Neg(a); !flat.Sane(n) || n != flat.Neg(a) {
			t.Error(a, n)
		}
		if v := flat.Of(a.C); !flat.Sane(v) || v.C != flat.Wrap(a.C) {
			t.Error(a.C, v)
		}
		for _, b := range anything() {
			if flat.Leq(a, b) && flat.Height(a) > flat.Height(b) {
				t.Error(a, b, "is below, and higher")
			}
			for _, call := range []func(a, b flat.Val) flat.Val{flat.Join, flat.Add, flat.Sub, flat.Mul} {
				if v := call(a, b); !flat.Sane(v) || v != call(a, b) {
					t.Error(a, b, v)
				}
			}
		}
	}
}
