package env_test

import (
	"math"
	"slices"
	"testing"

	"bywash/api"
	"bywash/env"
	"bywash/flat"
	"bywash/sign"
)

// The values are written by hand, so that no call below tells what it is tested with.
var bot, top = flat.Val{K: 0}, flat.Val{K: 2}

func one(c int) flat.Val { return flat.Val{K: 1, C: c} }

func flats(v ...flat.Val) env.Flat { return env.Flat{On: true, V: v} }

func signs(s ...int) env.Sign { return env.Sign{On: true, V: s} }

// kind is all calls of one kind of values, and what values are to each other, told apart from them.
type kind[T comparable] struct {
	name    string
	fill    func(n int, v T) env.Env[T]
	join    func(a, b env.Env[T]) env.Env[T]
	leq     func(a, b env.Env[T]) bool
	get     func(e env.Env[T], i int) T
	set     func(e env.Env[T], i int, v T) env.Env[T]
	may     []T // values that may be
	mayNot  []T
	few     []T // of both, for all Envs of them
	highest T
	sane    func(v T) bool
	below   func(x, y T) bool // both of values that may be
}

func ofFlats() kind[flat.Val] {
	return kind[flat.Val]{
		name: "Flat", fill: env.Flats, join: env.JoinFlat, leq: env.LeqFlat, get: env.GetFlat, set: env.SetFlat,
		may: []flat.Val{bot, top, one(api.MinConst), one(-1), one(0), one(1), one(2), one(api.MaxConst)},
		mayNot: []flat.Val{
			{K: 0, C: 1}, {K: 0, C: -1}, {K: 2, C: 1}, {K: 2, C: math.MinInt}, {K: 3}, {K: -1}, {K: 7, C: 1}, {K: 1<<32 + 1, C: 1},
			{K: math.MinInt, C: math.MinInt}, {K: math.MaxInt, C: math.MaxInt},
			one(api.MinConst - 1), one(api.MaxConst + 1), one(math.MinInt), one(math.MaxInt),
		},
		few:     []flat.Val{bot, one(1), one(2), top, {K: 0, C: 1}},
		highest: top,
		sane: func(v flat.Val) bool {
			return v == bot || v == top || v.K == 1 && -1<<31 <= v.C && v.C < 1<<31
		},
		below: func(x, y flat.Val) bool { return x == bot || x == y || y == top },
	}
}

func ofSigns() kind[int] {
	return kind[int]{
		name: "Sign", fill: env.Signs, join: env.JoinSign, leq: env.LeqSign, get: env.GetSign, set: env.SetSign,
		may:     []int{0, 1, 2, 3, 4, 5, 6, 7},
		mayNot:  []int{math.MinInt, math.MinInt + 1, -8, -4, -1, 8, 9, 15, 1 << 32, 1<<32 + 1, math.MaxInt},
		few:     []int{0, 1, 2, 4, 5, 7, -1},
		highest: 7,
		sane:    func(s int) bool { return 0 <= s && s < 8 },
		below:   func(x, y int) bool { return x|y == y },
	}
}

// both runs one test of each kind.
func both(t *testing.T, f func(*testing.T, kind[flat.Val]), s func(*testing.T, kind[int])) {
	t.Run("Flat", func(t *testing.T) { f(t, ofFlats()) })
	t.Run("Sign", func(t *testing.T) { s(t, ofSigns()) })
}

func (k kind[T]) all() []T { return append(slices.Clone(k.may), k.mayNot...) }

func (k kind[T]) taken(v T) T {
	if k.sane(v) {
		return v
	}
	return k.highest
}

// value is what e has at i, by the chapter's words.
func (k kind[T]) value(e env.Env[T], i int) T {
	if e.On && 0 <= i && i < len(e.V) {
		return k.taken(e.V[i])
	}
	var lowest T
	return lowest
}

// leastOf is the only one of what may be that is above both, and below all others that are.
func (k kind[T]) leastOf(x, y T) T {
	least := k.highest
	for _, z := range append([]T{x, y}, k.may...) {
		if k.below(x, z) && k.below(y, z) && k.below(z, least) {
			least = z
		}
	}
	return least
}

// small are all Envs of few values in at most two places, on and not on, and some longer ones.
func (k kind[T]) small() []env.Env[T] {
	l := []env.Env[T]{{}, {V: []T{}}, {On: true}, {On: true, V: []T{}}}
	for _, x := range k.few {
		l = append(l, env.Env[T]{V: []T{x}}, env.Env[T]{On: true, V: []T{x}})
		for _, y := range k.few {
			l = append(l, env.Env[T]{On: true, V: []T{x, y}})
		}
		l = append(l, env.Env[T]{V: []T{x, x, x}}, env.Env[T]{On: true, V: []T{k.highest, x, x, x}})
	}
	return append(l, env.Env[T]{On: true, V: k.may}, env.Env[T]{V: k.may}, env.Env[T]{On: true, V: k.all()})
}

func same[T comparable](a, b env.Env[T]) bool { return a.On == b.On && slices.Equal(a.V, b.V) }

var places = []int{math.MinInt, math.MinInt + 1, -1 << 32, -65, -64, -2, -1, 0, 1, 2, 3, 7, 63, 64, 65, 1 << 32, math.MaxInt - 1, math.MaxInt}

// P4.1

func TestFill(t *testing.T) { both(t, fill[flat.Val], fill[int]) }

func fill[T comparable](t *testing.T, k kind[T]) {
	for _, x := range []struct{ n, want int }{
		{math.MinInt, 0}, {-1 << 32, 0}, {-64, 0}, {-1, 0}, {0, 0}, {1, 1}, {2, 2}, {63, 63}, {64, 64},
		{65, 64}, {66, 64}, {1000, 64}, {1 << 32, 64}, {1<<32 + 1, 64}, {math.MaxInt, 64},
	} {
		for _, v := range k.all() {
			e := k.fill(x.n, v)
			if !same(e, env.Env[T]{On: true, V: slices.Repeat([]T{k.taken(v)}, x.want)}) {
				t.Errorf("%ss(%d, %v) = %v", k.name, x.n, v, e)
			}
		}
	}
}

func TestFillByHand(t *testing.T) {
	if e := env.Flats(2, one(-3)); !same(e, flats(one(-3), one(-3))) {
		t.Error(e)
	}
	if e := env.Flats(1, flat.Val{K: 1, C: 1 << 31}); !same(e, flats(top)) {
		t.Error(e)
	}
	if e := env.Signs(3, sign.Less|sign.More); !same(e, signs(5, 5, 5)) {
		t.Error(e)
	}
	if e := env.Signs(2, 8); !same(e, signs(7, 7)) {
		t.Error(e)
	}
	if e := env.Signs(0, 1); !e.On || len(e.V) != 0 {
		t.Error(e)
	}
}

func TestGet(t *testing.T) { both(t, get[flat.Val], get[int]) }

func get[T comparable](t *testing.T, k kind[T]) {
	for _, e := range k.small() {
		for _, i := range append([]int{len(e.V) - 1, len(e.V), len(e.V) + 1, -len(e.V)}, places...) {
			if got, want := k.get(e, i), k.value(e, i); got != want {
				t.Errorf("Get%s(%v, %d) = %v, want %v", k.name, e, i, got, want)
			}
		}
	}
}

func TestGetByHand(t *testing.T) {
	e := flats(one(4), flat.Val{K: 5, C: 1}, top, bot)
	for i, want := range map[int]flat.Val{-1: bot, 0: one(4), 1: top, 2: top, 3: bot, 4: bot, 5: bot, math.MinInt: bot, math.MaxInt: bot} {
		if got := env.GetFlat(e, i); got != want {
			t.Error(i, got)
		}
		if got := env.GetFlat(env.Flat{V: e.V}, i); got != bot {
			t.Error("not On", i, got)
		}
	}
	s := signs(1, 9, -1, 6)
	for i, want := range map[int]int{-1: 0, 0: 1, 1: 7, 2: 7, 3: 6, 4: 0, 5: 0, math.MinInt: 0, math.MaxInt: 0} {
		if got := env.GetSign(s, i); got != want {
			t.Error(i, got)
		}
		if got := env.GetSign(env.Sign{V: s.V}, i); got != 0 {
			t.Error("not On", i, got)
		}
	}
}

func TestGetLooksNotBehindTheLength(t *testing.T) {
	v := []int{1, 2, 4}
	if got := env.GetSign(signs(v[:1]...), 1); got != 0 {
		t.Error(got)
	}
	w := []flat.Val{one(1), one(2)}
	if got := env.GetFlat(flats(w[:1]...), 1); got != bot {
		t.Error(got)
	}
}

// P4.2

func TestSet(t *testing.T) { both(t, set[flat.Val], set[int]) }

func set[T comparable](t *testing.T, k kind[T]) {
	for _, e := range k.small() {
		for _, i := range append([]int{len(e.V) - 1, len(e.V), len(e.V) + 1}, places...) {
			for _, v := range k.all() {
				if got, want := k.set(e, i, v), k.withValue(e, i, v); !same(got, want) {
					t.Fatalf("Set%s(%v, %d, %v) = %v, want %v", k.name, e, i, v, got, want)
				}
			}
		}
	}
}

func (k kind[T]) withValue(e env.Env[T], i int, v T) env.Env[T] {
	if !e.On {
		return env.Env[T]{}
	}
	values := []T{}
	for j := range e.V {
		if j == i {
			values = append(values, k.taken(v))
		} else {
			values = append(values, k.value(e, j))
		}
	}
	return env.Env[T]{On: true, V: values}
}

func TestSetByHand(t *testing.T) {
	e := flats(one(1), flat.Val{K: 9}, one(3))
	if got := env.SetFlat(e, 2, one(8)); !same(got, flats(one(1), top, one(8))) {
		t.Error(got)
	}
	if got := env.SetFlat(e, 0, flat.Val{K: 2, C: 2}); !same(got, flats(top, top, one(3))) {
		t.Error(got)
	}
	for _, i := range []int{math.MinInt, -1, 3, 4, math.MaxInt} {
		if got := env.SetFlat(e, i, one(8)); !same(got, flats(one(1), top, one(3))) {
			t.Error(i, got)
		}
	}
	s := signs(1, 12)
	if got := env.SetSign(s, 0, 6); !same(got, signs(6, 7)) {
		t.Error(got)
	}
	if got := env.SetSign(s, 1, -2); !same(got, signs(1, 7)) {
		t.Error(got)
	}
	if got := env.SetSign(s, 2, 6); !same(got, signs(1, 7)) {
		t.Error(got)
	}
}

func TestSetOfOneThatIsNotOn(t *testing.T) {
	if e := env.SetFlat(env.Flat{V: []flat.Val{one(1)}}, 0, one(2)); e.On || e.V != nil {
		t.Error(e)
	}
	if e := env.SetSign(env.Sign{V: []int{1}}, 0, 2); e.On || e.V != nil {
		t.Error(e)
	}
	if e := env.SetSign(env.Sign{}, 0, 2); e.On || e.V != nil {
		t.Error(e)
	}
}

// P4.3

func TestLeqOfEachTwo(t *testing.T) { both(t, leqOfEachTwo[flat.Val], leqOfEachTwo[int]) }

func leqOfEachTwo[T comparable](t *testing.T, k kind[T]) {
	for _, a := range k.small() {
		for _, b := range k.small() {
			if got, want := k.leq(a, b), k.isBelow(a, b); got != want {
				t.Fatalf("Leq%s(%v, %v) = %v", k.name, a, b, got)
			}
		}
	}
}

func (k kind[T]) isBelow(a, b env.Env[T]) bool {
	if !a.On || !b.On {
		return !a.On
	}
	for i := range max(len(a.V), len(b.V)) {
		if !k.below(k.value(a, i), k.value(b, i)) {
			return false
		}
	}
	return true
}

func TestLeqByHand(t *testing.T) {
	off, bad := env.Flat{V: []flat.Val{one(1), top}}, flat.Val{K: 1, C: 1 << 31}
	for _, x := range []struct {
		a, b env.Flat
		want bool
	}{
		{env.Flat{}, env.Flat{}, true}, {off, env.Flat{}, true}, {env.Flat{}, off, true}, {off, off, true},
		{off, flats(), true}, {env.Flat{}, flats(one(1)), true}, {flats(), off, false}, {flats(one(1)), off, false},
		{flats(bot), env.Flat{}, false}, {flats(), env.Flat{}, false}, {flats(), flats(), true},
		{flats(one(1)), flats(one(1)), true}, {flats(one(1)), flats(one(2)), false}, {flats(one(1)), flats(top), true}, {flats(top), flats(one(1)), false},
		{flats(one(1)), flats(one(1), one(2)), true}, {flats(one(1), one(2)), flats(one(1)), false}, {flats(one(1), bot), flats(one(1)), true},
		{flats(), flats(one(1)), true}, {flats(one(1)), flats(), false}, {flats(bot, bot), flats(), true}, {flats(bot, bot, top), flats(), false},
		{flats(one(1), one(2)), flats(one(1), one(3)), false}, {flats(one(2), one(1)), flats(one(3), one(1)), false},
		{flats(bad), flats(top), true}, {flats(top), flats(bad), true}, {flats(bad), flats(one(1)), false}, {flats(one(1)), flats(bad), true}, {flats(bad), flats(bad), true},
		{flats(bad), flats(), false}, {flats(flat.Val{K: 0, C: 1}), flats(), false},
	} {
		if env.LeqFlat(x.a, x.b) != x.want {
			t.Error(x)
		}
	}
	for _, x := range []struct {
		a, b env.Sign
		want bool
	}{
		{env.Sign{}, signs(), true}, {signs(), env.Sign{V: []int{7}}, false}, {env.Sign{V: []int{7}}, signs(0), true},
		{signs(1, 2), signs(3, 6), true}, {signs(1, 2), signs(3, 5), false}, {signs(3), signs(1), false},
		{signs(0, 0), signs(), true}, {signs(0, 1), signs(7), false}, {signs(7), signs(7, 1), true},
		{signs(8), signs(7), true}, {signs(7), signs(-1), true}, {signs(8), signs(6), false}, {signs(8), signs(9), true},
	} {
		if env.LeqSign(x.a, x.b) != x.want {
			t.Error(x)
		}
	}
}

func TestJoinOfEachTwo(t *testing.T) { both(t, joinOfEachTwo[flat.Val], joinOfEachTwo[int]) }

func joinOfEachTwo[T comparable](t *testing.T, k kind[T]) {
	for _, a := range k.small() {
		for _, b := range k.small() {
			if got, want := k.join(a, b), k.joinOf(a, b); !same(got, want) {
				t.Fatalf("Join%s(%v, %v) = %v, want %v", k.name, a, b, got, want)
			}
		}
	}
}

func (k kind[T]) joinOf(a, b env.Env[T]) env.Env[T] {
	length := 0
	for _, e := range []env.Env[T]{a, b} {
		if e.On {
			length = max(length, len(e.V))
		}
	}
	values := []T{}
	for i := range length {
		values = append(values, k.leastOf(k.value(a, i), k.value(b, i)))
	}
	return env.Env[T]{On: a.On || b.On, V: values}
}

func TestTheDocumentsExample(t *testing.T) {
	if j := env.JoinFlat(flats(one(1)), flats(one(2))); !same(j, flats(top)) {
		t.Error(j)
	}
	if j := env.JoinFlat(flats(one(1), one(7)), flats(one(2), one(7))); !same(j, flats(top, one(7))) {
		t.Error(j)
	}
}

func TestJoinByHand(t *testing.T) {
	off, bad := env.Flat{V: []flat.Val{one(1), top, top}}, flat.Val{K: 1, C: 1 << 31}
	for _, x := range []struct{ a, b, want env.Flat }{
		{off, flats(one(5)), flats(one(5))}, {off, flats(bad, one(5)), flats(top, one(5))}, {off, flats(), flats()},
		{flats(), flats(), flats()}, {flats(), flats(one(5)), flats(one(5))}, {flats(bot), flats(), flats(bot)},
		{flats(one(5)), flats(one(5), one(6)), flats(one(5), one(6))}, {flats(one(5)), flats(one(6), bad), flats(top, top)},
		{flats(bad), flats(bot), flats(top)}, {flats(bad), flats(bad), flats(top)}, {flats(bot, one(1)), flats(one(1), bot), flats(one(1), one(1))},
		{off, off, env.Flat{}}, {off, env.Flat{}, env.Flat{}}, {env.Flat{}, env.Flat{}, env.Flat{}},
	} {
		if j := env.JoinFlat(x.a, x.b); !same(j, x.want) {
			t.Error(x, j)
		}
		if j := env.JoinFlat(x.b, x.a); !same(j, x.want) {
			t.Error("turned about", x, j)
		}
	}
	for _, x := range []struct{ a, b, want env.Sign }{
		{env.Sign{V: []int{4, 4}}, signs(1), signs(1)}, {env.Sign{V: []int{4, 4}}, env.Sign{}, env.Sign{}},
		{signs(1, 2), signs(4), signs(5, 2)}, {signs(1, 9), signs(), signs(1, 7)}, {signs(-1), signs(0), signs(7)},
	} {
		if j := env.JoinSign(x.a, x.b); !same(j, x.want) {
			t.Error(x, j)
		}
		if j := env.JoinSign(x.b, x.a); !same(j, x.want) {
			t.Error("turned about", x, j)
		}
	}
}

func TestJoinOfNeitherOnHasNoV(t *testing.T) {
	if j := env.JoinFlat(env.Flat{V: []flat.Val{one(1)}}, env.Flat{V: []flat.Val{one(1)}}); j.On || j.V != nil {
		t.Error(j)
	}
	if j := env.JoinSign(env.Sign{V: []int{1}}, env.Sign{V: []int{}}); j.On || j.V != nil {
		t.Error(j)
	}
}

func TestLongOnes(t *testing.T) { both(t, longOnes[flat.Val], longOnes[int]) }

// longOnes: V may be longer than what Flats and Signs make, and what is told is as long.
func longOnes[T comparable](t *testing.T, k kind[T]) {
	long := env.Env[T]{On: true, V: slices.Repeat(k.all(), 300)}
	short := env.Env[T]{On: true, V: k.may}
	last := len(long.V) - 1
	for _, two := range [][2]env.Env[T]{{long, short}, {short, long}, {long, long}, {long, {}}, {{}, long}} {
		if got, want := k.join(two[0], two[1]), k.joinOf(two[0], two[1]); !same(got, want) {
			t.Error(len(got.V), len(want.V))
		}
		if k.leq(two[0], two[1]) != k.isBelow(two[0], two[1]) {
			t.Error(len(two[0].V), len(two[1].V))
		}
	}
	if got := k.set(long, last, k.may[1]); !same(got, k.withValue(long, last, k.may[1])) || k.get(got, last) != k.may[1] {
		t.Error(len(got.V))
	}
}

// P4.4

func TestHeight(t *testing.T) {
	for _, x := range []struct{ n, one, want int }{
		{3, 2, 7}, {6, 3, 19}, {1, 1, 2}, {0, 0, 1}, {0, 5, 1}, {5, 0, 1}, {1, 2, 3}, {2, 1, 3},
		{-1, 2, 1}, {2, -1, 1}, {-1, -1, 1}, {-3, -2, 1}, {math.MinInt, math.MinInt, 1}, {math.MinInt, 3, 1}, {3, math.MinInt, 1},
		{1024, 1, 1025}, {1, 1024, 1025}, {1023, 1, 1024}, {1, 1023, 1024}, {1025, 1, 1025}, {1, 1025, 1025},
		{1024, 1024, 1048577}, {1023, 1024, 1047553}, {1024, 1023, 1047553}, {1025, 1025, 1048577},
		{math.MaxInt, math.MaxInt, 1048577}, {math.MaxInt, 2, 2049}, {2, math.MaxInt, 2049}, {1 << 32, 3, 3073},
		{math.MaxInt, math.MinInt, 1}, {math.MinInt, math.MaxInt, 1}, {0, math.MaxInt, 1}, {math.MaxInt, 0, 1},
	} {
		if got := env.Height(x.n, x.one); got != x.want {
			t.Errorf("Height(%d, %d) = %d, want %d", x.n, x.one, got, x.want)
		}
	}
}

func TestHeightIsThatOfTheLongestWayUp(t *testing.T) {
	for n := range 3 {
		if got, want := longestWayUp(ofFlats(), n), env.Height(n, 2); got != want {
			t.Error("Flat", n, got, want)
		}
		if got, want := longestWayUp(ofSigns(), n), env.Height(n, 3); got != want {
			t.Error("Sign", n, got, want)
		}
	}
}

// longestWayUp counts the steps from one that is not On up to the highest of n values.
func longestWayUp[T comparable](k kind[T], n int) int {
	levels := [][]env.Env[T]{{{}}}
	for {
		last := levels[len(levels)-1]
		next := []env.Env[T]{}
		for _, e := range k.ofLength(n) {
			rises := slices.ContainsFunc(last, func(low env.Env[T]) bool { return k.leq(low, e) && !k.leq(e, low) })
			if rises {
				next = append(next, e)
			}
		}
		if len(next) == 0 {
			return len(levels) - 1
		}
		levels = append(levels, next)
	}
}

func (k kind[T]) ofLength(n int) []env.Env[T] {
	l := []env.Env[T]{{On: true}}
	for range n {
		longer := []env.Env[T]{}
		for _, e := range l {
			for _, v := range k.may {
				longer = append(longer, env.Env[T]{On: true, V: append(slices.Clone(e.V), v)})
			}
		}
		l = longer
	}
	return l
}

// P4.5

func TestTheJoinIsTheLeastAboveBoth(t *testing.T) {
	both(t, leastAboveBoth[flat.Val], leastAboveBoth[int])
}

func leastAboveBoth[T comparable](t *testing.T, k kind[T]) {
	small := k.small()
	for _, a := range small {
		for _, b := range small {
			j := k.join(a, b)
			if !k.leq(a, j) || !k.leq(b, j) {
				t.Fatalf("Join%s(%v, %v) = %v is not above both", k.name, a, b, j)
			}
			for _, c := range small {
				if k.leq(a, c) && k.leq(b, c) && !k.leq(j, c) {
					t.Fatalf("Join%s(%v, %v) = %v is not below %v", k.name, a, b, j, c)
				}
			}
		}
	}
}

func TestOrder(t *testing.T) { both(t, order[flat.Val], order[int]) }

func order[T comparable](t *testing.T, k kind[T]) {
	small := k.small()
	for _, a := range small {
		if !k.leq(a, a) {
			t.Fatal(a)
		}
		for _, b := range small {
			if k.leq(a, b) != k.leq(k.join(a, b), b) {
				t.Fatal(a, b)
			}
			if k.leq(a, b) && k.leq(b, a) && a.On != b.On {
				t.Fatal(a, b)
			}
			for _, c := range small {
				if k.leq(a, b) && k.leq(b, c) && !k.leq(a, c) {
					t.Fatal(a, b, c)
				}
			}
		}
	}
}

func TestSetAndGet(t *testing.T) { both(t, setAndGet[flat.Val], setAndGet[int]) }

// setAndGet: what is set is got, and all else stays.
func setAndGet[T comparable](t *testing.T, k kind[T]) {
	for _, e := range k.small() {
		for i := -1; i <= len(e.V); i++ {
			changed := k.set(e, i, k.may[1])
			for j := -1; j <= len(e.V); j++ {
				want := k.get(e, j)
				if e.On && j == i && 0 <= i && i < len(e.V) {
					want = k.may[1]
				}
				if got := k.get(changed, j); got != want {
					t.Fatal(e, i, j, got, want)
				}
			}
		}
	}
}

// P1 and the rules R1 to R4

func TestAllThatIsToldMayBe(t *testing.T) { both(t, toldMayBe[flat.Val], toldMayBe[int]) }

func toldMayBe[T comparable](t *testing.T, k kind[T]) {
	bad := []env.Env[T]{{}, {V: k.mayNot}, {On: true, V: k.mayNot}, {On: true, V: k.mayNot[:1]}, {On: true, V: k.all()}}
	for _, a := range bad {
		for _, b := range bad {
			k.holdsWhatMayBe(t, k.join(a, b))
		}
		for _, v := range k.mayNot {
			for _, i := range places {
				k.holdsWhatMayBe(t, k.set(a, i, v))
				k.holdsWhatMayBe(t, k.fill(i, v))
				if got := k.get(a, i); !k.sane(got) {
					t.Fatal(a, i, got)
				}
			}
		}
	}
}

func (k kind[T]) holdsWhatMayBe(t *testing.T, e env.Env[T]) {
	t.Helper()
	if !e.On && e.V != nil {
		t.Fatal("not On, with a V", e)
	}
	for _, v := range e.V {
		if !k.sane(v) {
			t.Fatal(e)
		}
	}
}

func TestNothingIsChangedOrShared(t *testing.T) {
	both(t, nothingIsShared[flat.Val], nothingIsShared[int])
}

func nothingIsShared[T comparable](t *testing.T, k kind[T]) {
	for _, a := range k.small() {
		for _, b := range k.small() {
			k.standsAlone(t, a, b, func(a, b env.Env[T]) env.Env[T] { return k.join(a, b) })
		}
		for i := -1; i <= len(a.V); i++ {
			k.standsAlone(t, a, env.Env[T]{}, func(a, _ env.Env[T]) env.Env[T] { return k.set(a, i, k.mayNot[0]) })
		}
		k.standsAlone(t, a, a, func(a, b env.Env[T]) env.Env[T] {
			k.leq(a, b)
			k.get(a, 0)
			return env.Env[T]{}
		})
	}
}

// standsAlone hands in copies with room behind their ends, and writes over all of what was answered, and all of what
// was handed in: the other side has to stay as it was.
func (k kind[T]) standsAlone(t *testing.T, a, b env.Env[T], call func(a, b env.Env[T]) env.Env[T]) {
	t.Helper()
	inA, inB := k.roomy(a), k.roomy(b)
	fullA, fullB := whole(inA), whole(inB)
	beforeA, beforeB := slices.Clone(fullA), slices.Clone(fullB)
	out := call(inA, inB)
	if !slices.Equal(fullA, beforeA) || !slices.Equal(fullB, beforeB) {
		t.Fatal("changed", a, b)
	}
	told := slices.Clone(out.V)
	writeOver(fullA, k.few[2])
	writeOver(fullB, k.few[2])
	if !slices.Equal(out.V, told) {
		t.Fatal("the answer hangs on what was handed in", a, b)
	}
	copy(fullA, beforeA)
	copy(fullB, beforeB)
	writeOver(whole(out), k.few[1])
	if !slices.Equal(fullA, beforeA) || !slices.Equal(fullB, beforeB) {
		t.Fatal("what was handed in hangs on the answer", a, b)
	}
}

func (k kind[T]) roomy(e env.Env[T]) env.Env[T] {
	if e.V == nil {
		return e
	}
	v := append(slices.Clone(e.V), k.highest, k.highest, k.highest)
	return env.Env[T]{On: e.On, V: v[:len(e.V)]}
}

func whole[T any](e env.Env[T]) []T { return e.V[:cap(e.V)] }

func writeOver[T any](v []T, with T) {
	for i := range v {
		v[i] = with
	}
}

func TestFilledOnesAreNewMemory(t *testing.T) {
	both(t, filledOnesAreNew[flat.Val], filledOnesAreNew[int])
}

func filledOnesAreNew[T comparable](t *testing.T, k kind[T]) {
	first := k.fill(64, k.may[1])
	second := k.fill(64, k.may[1])
	writeOver(whole(first), k.may[2])
	if !same(second, env.Env[T]{On: true, V: slices.Repeat([]T{k.may[1]}, 64)}) {
		t.Error(second)
	}
}

func TestEveryCallAnswersTheSameAgain(t *testing.T) {
	both(t, theSameAgain[flat.Val], theSameAgain[int])
}

func theSameAgain[T comparable](t *testing.T, k kind[T]) {
	for _, a := range k.small() {
		for _, i := range places {
			if k.get(a, i) != k.get(a, i) || !same(k.set(a, i, k.highest), k.set(a, i, k.highest)) {
				t.Fatal(a, i)
			}
		}
		for _, b := range k.small() {
			if !same(k.join(a, b), k.join(a, b)) || k.leq(a, b) != k.leq(a, b) {
				t.Fatal(a, b)
			}
		}
	}
}
