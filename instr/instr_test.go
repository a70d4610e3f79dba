package instr_test

import (
	"math"
	"slices"
	"strings"
	"testing"

	"bywash/api"
	"bywash/bits"
	"bywash/env"
	"bywash/flat"
	"bywash/instr"
	"bywash/sign"
)

// has is the chapter's words, written anew: what the instructions of each kind have beside Id and Kind.
var has = [10][]string{
	{"Dst", "C"}, {"Dst", "A"}, {"Dst", "A"}, {"Dst", "A", "B"}, {"Dst", "A", "B"}, {"Dst", "A", "B"},
	{"Dst"}, {"Dst", "F", "N"}, {"A"}, {"A"},
}

var names = [10]string{"const", "copy", "neg", "add", "sub", "mul", "input", "call", "use", "ret"}

// fields are all numbers of an instruction but Id and Kind.
var fields = []struct {
	name string
	at   func(i *api.Instr) *int
}{
	{"Dst", func(i *api.Instr) *int { return &i.Dst }},
	{"A", func(i *api.Instr) *int { return &i.A }},
	{"B", func(i *api.Instr) *int { return &i.B }},
	{"C", func(i *api.Instr) *int { return &i.C }},
	{"F", func(i *api.Instr) *int { return &i.F }},
	{"N", func(i *api.Instr) *int { return &i.N }},
	{"Args0", func(i *api.Instr) *int { return &i.Args[0] }},
	{"Args1", func(i *api.Instr) *int { return &i.Args[1] }},
	{"Args2", func(i *api.Instr) *int { return &i.Args[2] }},
}

// hasField: does i, of a kind that is one, have that number?
func hasField(i api.Instr, name string) bool {
	if k, ok := strings.CutPrefix(name, "Args"); ok {
		return i.Kind == 7 && int(k[0]-'0') < i.N
	}
	return slices.Contains(has[i.Kind], name)
}

// mayBe is P5.1, number by number.
func mayBe(i api.Instr) bool {
	if i.Kind < 0 || i.Kind > 9 || i.Id < 0 || i.Id > 95 {
		return false
	}
	for _, f := range fields {
		x := *f.at(&i)
		switch {
		case !hasField(i, f.name):
			if x != 0 {
				return false
			}
		case f.name == "C":
			if x < -2147483648 || x > 2147483647 {
				return false
			}
		case f.name == "N":
			if x < 0 || x > 3 {
				return false
			}
		case x < 0:
			return false
		}
	}
	return true
}

// reads is what an instruction that may be reads, in order, each as often as it is read.
func reads(i api.Instr) []int {
	var l []int
	for _, f := range fields {
		isVar := f.name == "A" || f.name == "B" || strings.HasPrefix(f.name, "Args")
		if isVar && hasField(i, f.name) {
			l = append(l, *f.at(&i))
		}
	}
	return l
}

func wantDef(i api.Instr) int {
	if mayBe(i) && i.Kind != 8 && i.Kind != 9 {
		return i.Dst
	}
	return -1
}

func wantUses(i api.Instr) []int {
	if !mayBe(i) {
		return nil
	}
	all, seen := reads(i), map[int]int{}
	var l []int
	for _, v := range all {
		seen[v]++
		if seen[v] == 1 {
			l = append(l, v)
		}
	}
	return l
}

func wantVars(i api.Instr) []int {
	in := map[int]int{}
	if d := wantDef(i); d >= 0 {
		in[d] = 1
	}
	for _, v := range wantUses(i) {
		in[v] = 1
	}
	var l []int
	for v := range in {
		l = append(l, v)
	}
	slices.Sort(l)
	return l
}

// good is one instruction of each kind that may be, with other than 0 in all that it has.
func good() []api.Instr {
	return []api.Instr{
		{Id: 1, Kind: api.Const, Dst: 2, C: -5},
		{Id: 2, Kind: api.Copy, Dst: 1, A: 3},
		{Id: 3, Kind: api.Neg, Dst: 3, A: 1},
		{Id: 4, Kind: api.Add, Dst: 1, A: 3, B: 2},
		{Id: 5, Kind: api.Sub, Dst: 2, A: 1, B: 3},
		{Id: 6, Kind: api.Mul, Dst: 3, A: 2, B: 1},
		{Id: 7, Kind: api.Input, Dst: 4},
		{Id: 8, Kind: api.Call, Dst: 4, F: 1, N: 3, Args: [3]int{5, 2, 3}},
		{Id: 9, Kind: api.Use, A: 2},
		{Id: 95, Kind: api.Ret, A: 3},
	}
}

// bad are instructions that may not be, each by one fault alone.
func bad() []api.Instr {
	l := []api.Instr{}
	for _, i := range good() {
		for _, f := range fields {
			j := i
			if hasField(i, f.name) {
				*f.at(&j) = -1
				if f.name == "C" {
					*f.at(&j) = 1 << 31
				}
			} else {
				*f.at(&j) = 1
			}
			l = append(l, j)
		}
		for _, x := range []int{math.MinInt, -1, 96, math.MaxInt} {
			j := i
			j.Id = x
			l = append(l, j)
		}
	}
	for _, k := range []int{math.MinInt, -1, 10, 11, 1 << 32, math.MaxInt} {
		l = append(l, api.Instr{Kind: k}, api.Instr{Kind: k, Dst: 1, A: 1})
	}
	return append(l, api.Instr{Kind: api.Call, N: 1, Args: [3]int{1, 1}}, api.Instr{Kind: api.Call, N: 2, Args: [3]int{1, 1, 1}})
}

// few is good ones, bad ones, and those whose variables are alike, or beside what is known.
func few() []api.Instr {
	l := append(good(), bad()...)
	for k := range 10 {
		for dst := range 3 {
			for a := range 3 {
				for b := range 3 {
					l = append(l, api.Instr{Kind: k, Dst: dst, A: a, B: b}, api.Instr{Kind: k, Dst: dst, A: a})
				}
			}
		}
		l = append(l, api.Instr{Kind: k, A: 1}, api.Instr{Kind: k, Dst: 9, A: 9}, api.Instr{Kind: k, Dst: math.MaxInt}, api.Instr{Kind: k, A: math.MaxInt})
	}
	for _, c := range []int{math.MinInt, api.MinConst - 1, api.MinConst, -1, 0, 1, api.MaxConst, api.MaxConst + 1, math.MaxInt} {
		l = append(l, api.Instr{C: c}, api.Instr{Dst: 1, C: c})
	}
	for n := -1; n <= 4; n++ {
		l = append(l, api.Instr{Kind: api.Call, N: n}, api.Instr{Kind: api.Call, Dst: 1, F: 5, N: n, Args: [3]int{1, 1, 1}}, api.Instr{Kind: api.Call, N: n, Args: [3]int{2, 1, 2}})
	}
	return l
}

func check(t *testing.T, i api.Instr) {
	t.Helper()
	if got := instr.Form(i); got != mayBe(i) {
		t.Fatalf("Form(%+v) = %v", i, got)
	}
	if got := instr.Def(i); got != wantDef(i) {
		t.Fatalf("Def(%+v) = %d", i, got)
	}
	if got := instr.Uses(i); !slices.Equal(got, wantUses(i)) {
		t.Fatalf("Uses(%+v) = %v", i, got)
	}
	if got := instr.Vars(i); !slices.Equal(got, wantVars(i)) {
		t.Fatalf("Vars(%+v) = %v", i, got)
	}
}

// P5.1 and P5.2

func TestEachKind(t *testing.T) {
	for k, x := range []struct {
		def        int
		uses, vars []int
	}{
		{2, nil, []int{2}}, {1, []int{3}, []int{1, 3}}, {3, []int{1}, []int{1, 3}}, {1, []int{3, 2}, []int{1, 2, 3}},
		{2, []int{1, 3}, []int{1, 2, 3}}, {3, []int{2, 1}, []int{1, 2, 3}}, {4, nil, []int{4}},
		{4, []int{5, 2, 3}, []int{2, 3, 4, 5}}, {-1, []int{2}, []int{2}}, {-1, []int{3}, []int{3}},
	} {
		i := good()[k]
		if !instr.Form(i) || instr.Def(i) != x.def || !slices.Equal(instr.Uses(i), x.uses) || !slices.Equal(instr.Vars(i), x.vars) {
			t.Errorf("%+v: %v %v %v %v", i, instr.Form(i), instr.Def(i), instr.Uses(i), instr.Vars(i))
		}
		check(t, i)
	}
}

func TestTheDocumentsExample(t *testing.T) {
	i := api.Instr{Kind: api.Add, Dst: 0, A: 1, B: 1}
	if instr.Def(i) != 0 || !slices.Equal(instr.Uses(i), []int{1}) || !slices.Equal(instr.Vars(i), []int{0, 1}) {
		t.Error(instr.Def(i), instr.Uses(i), instr.Vars(i))
	}
}

func TestFormAtTheEdgesOfKindAndId(t *testing.T) {
	for kind, want := range map[int]bool{math.MinInt: false, -1: false, 0: true, 1: true, 8: true, 9: true, 10: false, 11: false, 1 << 32: false, math.MaxInt: false} {
		if instr.Form(api.Instr{Kind: kind}) != want {
			t.Error("Kind", kind)
		}
	}
	for id, want := range map[int]bool{math.MinInt: false, -1: false, 0: true, 1: true, 94: true, 95: true, 96: false, 97: false, 1 << 32: false, math.MaxInt: false} {
		for kind := range 10 {
			if instr.Form(api.Instr{Id: id, Kind: kind}) != want {
				t.Error("Id", id, kind)
			}
		}
	}
}

func TestFormOfConstants(t *testing.T) {
	for c, want := range map[int]bool{
		math.MinInt: false, -1<<31 - 1: false, -1 << 31: true, -1<<31 + 1: true, -1: true, 0: true, 1: true,
		1<<31 - 2: true, 1<<31 - 1: true, 1 << 31: false, 1 << 32: false, math.MaxInt: false,
	} {
		if instr.Form(api.Instr{C: c}) != want {
			t.Error("C", c)
		}
		for kind := 1; kind < 10; kind++ {
			if instr.Form(api.Instr{Kind: kind, C: c}) != (c == 0) {
				t.Error("C", c, kind)
			}
		}
	}
}

func TestFormOfCalls(t *testing.T) {
	for n, want := range map[int]bool{math.MinInt: false, -1: false, 0: true, 1: true, 2: true, 3: true, 4: false, 1 << 32: false, math.MaxInt: false} {
		if instr.Form(api.Instr{Kind: api.Call, N: n}) != want {
			t.Error("N", n)
		}
		if instr.Form(api.Instr{Kind: api.Call, N: n, Args: [3]int{1, 2, 3}}) != (n == 3) {
			t.Error("three arguments, N", n)
		}
		if instr.Form(api.Instr{Kind: api.Call, N: n, Args: [3]int{1, 2}}) != (n == 2 || n == 3) {
			t.Error("two arguments, N", n)
		}
		if instr.Form(api.Instr{Kind: api.Call, N: n, Args: [3]int{1}}) != (1 <= n && n <= 3) {
			t.Error("one argument, N", n)
		}
	}
	for f, want := range map[int]bool{math.MinInt: false, -1: false, 0: true, 5: true, 6: true, math.MaxInt: true} {
		if instr.Form(api.Instr{Kind: api.Call, F: f}) != want {
			t.Error("F", f)
		}
	}
	for k := range 3 {
		i := api.Instr{Kind: api.Call, N: 3}
		i.Args[k] = -1
		if instr.Form(i) {
			t.Error("below 0", i)
		}
		i.Args[k] = math.MaxInt
		if !instr.Form(i) {
			t.Error("high", i)
		}
	}
}

func TestWhatAKindHasNotIsZero(t *testing.T) {
	for _, i := range good() {
		for _, f := range fields {
			for _, x := range []int{math.MinInt, -1, 1, 2, math.MaxInt} {
				j := i
				if *f.at(&j) = x; !hasField(i, f.name) && instr.Form(j) {
					t.Errorf("Form(%+v)", j)
				}
				check(t, j)
			}
		}
	}
}

func TestNoVariableIsBelowZero(t *testing.T) {
	for _, i := range good() {
		for _, f := range fields {
			if f.name == "C" || !hasField(i, f.name) {
				continue
			}
			for _, x := range []int{-1, -2, -1 << 32, math.MinInt} {
				j := i
				*f.at(&j) = x
				if instr.Form(j) || instr.Def(j) != -1 || len(instr.Uses(j)) != 0 || len(instr.Vars(j)) != 0 {
					t.Errorf("Form(%+v)", j)
				}
			}
		}
	}
}

// TestEachTwoNumbers: one fault is not mended by another one.
func TestEachTwoNumbers(t *testing.T) {
	edges := []int{math.MinInt, api.MinConst - 1, api.MinConst, -1, 0, 1, 3, 4, 95, 96, api.MaxConst, api.MaxConst + 1, math.MaxInt}
	for kind := -1; kind <= 10; kind++ {
		for _, f := range fields {
			for _, g := range fields {
				for _, x := range edges {
					for _, y := range edges {
						i := api.Instr{Kind: kind}
						*f.at(&i), *g.at(&i) = x, y
						check(t, i)
					}
				}
			}
		}
	}
}

// TestAllSmallOnes: all instructions of numbers from -1 to 1, of each N.
func TestAllSmallOnes(t *testing.T) {
	for kind := -1; kind <= 10; kind++ {
		for n := -1; n <= 4; n++ {
			for code := range 6561 { // three numbers in eight places
				i := api.Instr{Kind: kind, N: n}
				for _, f := range fields {
					if f.name != "N" {
						*f.at(&i) = code%3 - 1
						code /= 3
					}
				}
				if instr.Form(i) != mayBe(i) {
					t.Fatalf("Form(%+v)", i)
				}
				if instr.Form(i) {
					check(t, i)
				}
			}
		}
	}
}

func TestVariablesThatAreReadTwice(t *testing.T) {
	for _, x := range []struct {
		i          api.Instr
		uses, vars []int
	}{
		{api.Instr{Kind: api.Mul, Dst: 5, A: 2, B: 2}, []int{2}, []int{2, 5}},
		{api.Instr{Kind: api.Sub, Dst: 2, A: 2, B: 2}, []int{2}, []int{2}},
		{api.Instr{Kind: api.Sub, Dst: 2, A: 4, B: 2}, []int{4, 2}, []int{2, 4}},
		{api.Instr{Kind: api.Neg, Dst: 2, A: 2}, []int{2}, []int{2}},
		{api.Instr{Kind: api.Copy, Dst: 0, A: 0}, []int{0}, []int{0}},
		{api.Instr{Kind: api.Call, Dst: 1, N: 3, Args: [3]int{4, 1, 4}}, []int{4, 1}, []int{1, 4}},
		{api.Instr{Kind: api.Call, Dst: 1, N: 3, Args: [3]int{4, 3, 3}}, []int{4, 3}, []int{1, 3, 4}},
		{api.Instr{Kind: api.Call, Dst: 1, N: 3, Args: [3]int{1, 1, 1}}, []int{1}, []int{1}},
		{api.Instr{Kind: api.Call, Dst: 1, N: 3}, []int{0}, []int{0, 1}},
		{api.Instr{Kind: api.Call, Dst: 1, N: 2, Args: [3]int{3, 2}}, []int{3, 2}, []int{1, 2, 3}},
		{api.Instr{Kind: api.Call, Dst: 1}, nil, []int{1}},
	} {
		if !slices.Equal(instr.Uses(x.i), x.uses) || !slices.Equal(instr.Vars(x.i), x.vars) {
			t.Errorf("%+v: %v %v", x.i, instr.Uses(x.i), instr.Vars(x.i))
		}
	}
}

func TestWhatMayNotBeDoesNothing(t *testing.T) {
	s := bits.Of(96, []int{0, 1, 2, 5})
	e := env.Flat{On: true, V: []flat.Val{{K: 1, C: 4}, {K: 2}, {}}}
	g := env.Sign{On: true, V: []int{sign.Less, sign.All, 0}}
	for _, i := range bad() {
		if instr.Form(i) || instr.Def(i) != -1 || len(instr.Uses(i)) != 0 || len(instr.Vars(i)) != 0 {
			t.Errorf("%+v: %v %v %v %v", i, instr.Form(i), instr.Def(i), instr.Uses(i), instr.Vars(i))
		}
		if got := instr.Reach(s, i, []int{1, 2}); !bits.Same(got, s) {
			t.Errorf("Reach(%+v) = %v", i, bits.List(got))
		}
		if got := instr.Live(s, i); !bits.Same(got, s) {
			t.Errorf("Live(%+v) = %v", i, bits.List(got))
		}
		if got := instr.Flat(e, i); !got.On || !slices.Equal(got.V, e.V) {
			t.Errorf("Flat(%+v) = %v", i, got)
		}
		if got := instr.Sign(g, i, sign.Zero); !got.On || !slices.Equal(got.V, g.V) {
			t.Errorf("Sign(%+v) = %v", i, got)
		}
	}
}

// P5.3

// sets are some that may be, of all lengths that matter, and some that may not.
func sets() []bits.Set {
	l := []bits.Set{{}, {N: 0, W: []uint64{}}}
	for _, n := range []int{1, 3, 6, 63, 64, 65, 96, 1024} {
		all := []int{}
		for v := range n {
			all = append(all, v)
		}
		l = append(l, bits.New(n), bits.Of(n, []int{0, 2, 5, 7, 64, 95}), bits.Of(n, all))
	}
	return append(l, setsThatMayNotBe()...)
}

func setsThatMayNotBe() []bits.Set {
	return []bits.Set{
		{N: 6}, {N: 6, W: []uint64{}}, {N: 6, W: []uint64{64}}, {N: 6, W: []uint64{3, 0}}, {N: 96, W: []uint64{7}},
		{N: 0, W: []uint64{1}}, {N: -1}, {N: math.MinInt, W: []uint64{1}}, {N: math.MaxInt, W: []uint64{1}}, {N: 1025, W: make([]uint64, 17)},
	}
}

// inside is the numbers of a set, digit by digit; none of one that may not be.
func inside(s bits.Set) (n int, in map[int]int) {
	in = map[int]int{}
	if slices.ContainsFunc(setsThatMayNotBe(), func(x bits.Set) bool { return x.N == s.N && slices.Equal(x.W, s.W) }) {
		return 0, in
	}
	for v := range s.N {
		if s.W[v/64]>>(v%64)&1 == 1 {
			in[v] = 1
		}
	}
	return s.N, in
}

func isSet(s bits.Set, n int, in map[int]int) bool {
	if s.N != n || len(s.W) != (n+63)/64 {
		return false
	}
	for v := range 64 * len(s.W) {
		if int(s.W[v/64]>>(v%64)&1) != in[v] {
			return false
		}
	}
	return true
}

var idLists = [][]int{
	nil, {}, {0}, {2, 5}, {7, 2, 64}, {1, 3}, {5, 5, 5}, {95, 0}, {-1, 6, 96, 1023, 1024},
	{math.MinInt, math.MaxInt, 2, 1 << 32}, {0, 1, 2, 3, 4, 5, 6, 7, 8, 9},
}

func TestReach(t *testing.T) {
	for _, s := range sets() {
		for _, i := range few() {
			for _, ids := range idLists {
				n, in := inside(s)
				if wantDef(i) >= 0 {
					for _, v := range ids {
						delete(in, v)
					}
					if i.Id < n {
						in[i.Id] = 1
					}
				}
				if got := instr.Reach(s, i, ids); !isSet(got, n, in) {
					t.Fatalf("Reach(%v, %+v, %v) = %v", s, i, ids, got)
				}
			}
		}
	}
}

func TestReachByHand(t *testing.T) {
	s := bits.Of(96, []int{1, 2, 5, 70})
	for _, x := range []struct {
		i    api.Instr
		ids  []int
		want []int
	}{
		{api.Instr{Id: 7, Kind: api.Input}, []int{2, 5}, []int{1, 7, 70}},
		{api.Instr{Id: 7, Kind: api.Input}, []int{2, 5, 7}, []int{1, 7, 70}},
		{api.Instr{Id: 5, Kind: api.Const, C: 3}, []int{5}, []int{1, 2, 5, 70}},
		{api.Instr{Id: 95, Kind: api.Copy}, nil, []int{1, 2, 5, 70, 95}},
		{api.Instr{Id: 95, Kind: api.Call, F: 4}, []int{70, 1, -1, 96, 64, math.MaxInt, math.MinInt}, []int{2, 5, 95}},
		{api.Instr{Id: 7, Kind: api.Use}, []int{2, 5}, []int{1, 2, 5, 70}},
		{api.Instr{Id: 7, Kind: api.Ret}, []int{1}, []int{1, 2, 5, 70}},
		{api.Instr{Id: 96, Kind: api.Input}, []int{1}, []int{1, 2, 5, 70}},
		{api.Instr{Id: 7, Kind: api.Input, A: 1}, []int{1}, []int{1, 2, 5, 70}},
	} {
		if got := instr.Reach(s, x.i, x.ids); got.N != 96 || !slices.Equal(bits.List(got), x.want) {
			t.Errorf("Reach(%+v, %v) = %v", x.i, x.ids, bits.List(got))
		}
	}
	if got := instr.Reach(bits.Of(8, []int{1, 6}), api.Instr{Id: 8, Kind: api.Input}, []int{6, 9}); got.N != 8 || !slices.Equal(bits.List(got), []int{1}) {
		t.Error("an Id out of the set's range", got)
	}
}

func TestLive(t *testing.T) {
	for _, s := range sets() {
		for _, i := range few() {
			n, in := inside(s)
			delete(in, wantDef(i))
			for _, v := range wantUses(i) {
				if v < n {
					in[v] = 1
				}
			}
			if got := instr.Live(s, i); !isSet(got, n, in) {
				t.Fatalf("Live(%v, %+v) = %v", s, i, got)
			}
		}
	}
}

func TestLiveByHand(t *testing.T) {
	s := bits.Of(6, []int{0, 4})
	for _, x := range []struct {
		i    api.Instr
		want []int
	}{
		{api.Instr{Kind: api.Const, Dst: 4, C: 1}, []int{0}},
		{api.Instr{Kind: api.Const, Dst: 3, C: 1}, []int{0, 4}},
		{api.Instr{Kind: api.Copy, Dst: 4, A: 4}, []int{0, 4}},
		{api.Instr{Kind: api.Copy, Dst: 2, A: 3}, []int{0, 3, 4}},
		{api.Instr{Kind: api.Neg, Dst: 0, A: 5}, []int{4, 5}},
		{api.Instr{Kind: api.Add, Dst: 0, A: 0, B: 1}, []int{0, 1, 4}},
		{api.Instr{Kind: api.Mul, Dst: 4, A: 3, B: 3}, []int{0, 3}},
		{api.Instr{Kind: api.Input, Dst: 0}, []int{4}},
		{api.Instr{Kind: api.Call, Dst: 4, F: 1, N: 3, Args: [3]int{3, 4, 3}}, []int{0, 3, 4}},
		{api.Instr{Kind: api.Call, Dst: 4, F: 1}, []int{0}},
		{api.Instr{Kind: api.Use, A: 2}, []int{0, 2, 4}},
		{api.Instr{Kind: api.Ret, A: 4}, []int{0, 4}},
		{api.Instr{Kind: api.Ret, A: 6}, []int{0, 4}},
		{api.Instr{Kind: api.Copy, Dst: 6, A: math.MaxInt}, []int{0, 4}},
		{api.Instr{Kind: api.Use, A: 2, Dst: 4}, []int{0, 4}},
	} {
		if got := instr.Live(s, x.i); got.N != 6 || !slices.Equal(bits.List(got), x.want) {
			t.Errorf("Live(%+v) = %v", x.i, bits.List(got))
		}
	}
}

func TestSetsThatMayNotBe(t *testing.T) {
	for _, s := range setsThatMayNotBe() {
		for _, i := range few() {
			if got := instr.Reach(s, i, []int{0, 1}); got.N != 0 || len(got.W) != 0 {
				t.Fatal("Reach", s, i, got)
			}
			if got := instr.Live(s, i); got.N != 0 || len(got.W) != 0 {
				t.Fatal("Live", s, i, got)
			}
		}
	}
}

// P5.4

var bot, top = flat.Val{}, flat.Val{K: 2}

func one(c int) flat.Val { return flat.Val{K: 1, C: c} }

// vals are values that may be, and behind them some that may not.
var vals = []flat.Val{
	bot, top, one(api.MinConst), one(-3), one(-1), one(0), one(1), one(6), one(65536), one(api.MaxConst),
	{K: 0, C: 1}, {K: 2, C: 1}, {K: 3}, {K: -1}, one(api.MinConst - 1), one(api.MaxConst + 1), one(math.MinInt), one(math.MaxInt), {K: math.MaxInt, C: 5},
}

var signSets = []int{0, 1, 2, 3, 4, 5, 6, 7, -1, 8, 9, 15, 1 << 32, math.MinInt, math.MaxInt}

func takenVal(v flat.Val) flat.Val {
	if v == bot || v == top || v.K == 1 && -1<<31 <= v.C && v.C < 1<<31 {
		return v
	}
	return top
}

func takenSigns(s int) int {
	if s < 0 || s > 7 {
		return 7
	}
	return s
}

// at is the value of place i of V, if there is one; else the zero value.
func at[T any](v []T, i int, taken func(T) T) T {
	var lowest T
	if i < 0 || i >= len(v) {
		return lowest
	}
	return taken(v[i])
}

// wantVal is what an instruction with a Dst makes of two values.
func wantVal(i api.Instr, a, b flat.Val) flat.Val {
	count := 2
	switch i.Kind {
	case api.Const:
		return one(i.C)
	case api.Input, api.Call:
		return top
	case api.Copy, api.Neg:
		b, count = a, 1
	}
	if a == bot || b == bot {
		return bot
	}
	if a == top || b == top {
		return top
	}
	if count == 1 {
		return one(map[int]int{api.Copy: a.C, api.Neg: wrapped(-a.C)}[i.Kind])
	}
	return one(wrapped(map[int]int{api.Add: a.C + b.C, api.Sub: a.C - b.C, api.Mul: a.C * b.C}[i.Kind]))
}

// wrapped is the number of -2^31 to 2^31 - 1 that differs from n by whole 2^32.
func wrapped(n int) int {
	n %= 1 << 32
	if n >= 1<<31 {
		return n - 1<<32
	}
	if n < -1<<31 {
		return n + 1<<32
	}
	return n
}

// wantSigns tries numbers of all signs that A and B may have: of each sign there are two, so that a sum may be of any sign.
func wantSigns(i api.Instr, a, b, answer int) int {
	switch i.Kind {
	case api.Const:
		return signOf(i.C)
	case api.Input:
		return 7
	case api.Call:
		return takenSigns(answer)
	}
	made := 0
	for x := -2; x <= 2; x++ {
		for y := -2; y <= 2; y++ {
			inA, inB := signOf(x)&a != 0, signOf(y)&b != 0
			switch {
			case i.Kind == api.Copy && inA:
				made |= signOf(x)
			case i.Kind == api.Neg && inA:
				made |= signOf(-x)
			case i.Kind == api.Add && inA && inB:
				made |= signOf(x + y)
			case i.Kind == api.Sub && inA && inB:
				made |= signOf(x - y)
			case i.Kind == api.Mul && inA && inB:
				made |= signOf(x * y)
			}
		}
	}
	return made
}

func signOf(n int) int {
	if n < 0 {
		return 1
	}
	if n == 0 {
		return 2
	}
	return 4
}

// wantEnv is P5.4 of both kinds of values.
func wantEnv[T any](e env.Env[T], i api.Instr, taken func(T) T, made func(a, b T) T) env.Env[T] {
	if !e.On {
		return env.Env[T]{}
	}
	l := []T{}
	for k := range e.V {
		if k == wantDef(i) {
			l = append(l, made(at(e.V, i.A, taken), at(e.V, i.B, taken)))
		} else {
			l = append(l, taken(e.V[k]))
		}
	}
	return env.Env[T]{On: true, V: l}
}

func checkFlat(t *testing.T, e env.Flat, i api.Instr) {
	t.Helper()
	want := wantEnv(e, i, takenVal, func(a, b flat.Val) flat.Val { return wantVal(i, a, b) })
	if got := instr.Flat(e, i); !sameEnv(got, want) {
		t.Fatalf("Flat(%v, %+v) = %v, want %v", e, i, got, want)
	}
}

func checkSign(t *testing.T, e env.Sign, i api.Instr, answer int) {
	t.Helper()
	want := wantEnv(e, i, takenSigns, func(a, b int) int { return wantSigns(i, a, b, answer) })
	if got := instr.Sign(e, i, answer); !sameEnv(got, want) {
		t.Fatalf("Sign(%v, %+v, %d) = %v, want %v", e, i, answer, got, want)
	}
}

// sameEnv: one that is not On has no V at all.
func sameEnv[T comparable](a, b env.Env[T]) bool {
	return a.On == b.On && slices.Equal(a.V, b.V) && (a.On || a.V == nil)
}

func TestFlat(t *testing.T) {
	for _, i := range few() {
		for _, e := range []env.Flat{{}, {V: []flat.Val{one(1), top}}, {On: true}, {On: true, V: []flat.Val{}}, {On: true, V: vals}, {V: vals}} {
			checkFlat(t, e, i)
		}
		for _, x := range vals {
			checkFlat(t, env.Flat{On: true, V: []flat.Val{x}}, i)
			for _, y := range vals {
				checkFlat(t, env.Flat{On: true, V: []flat.Val{x, y}}, i)
				checkFlat(t, env.Flat{On: true, V: []flat.Val{one(2), x, y, vals[12]}}, i)
			}
		}
	}
}

func TestSign(t *testing.T) {
	for _, i := range few() {
		for _, answer := range signSets {
			for _, e := range []env.Sign{{}, {V: []int{1, 7}}, {On: true}, {On: true, V: []int{}}, {On: true, V: signSets}, {V: signSets}} {
				checkSign(t, e, i, answer)
			}
			for _, x := range signSets {
				checkSign(t, env.Sign{On: true, V: []int{x}}, i, answer)
			}
		}
		for _, x := range signSets {
			for _, y := range signSets {
				checkSign(t, env.Sign{On: true, V: []int{x, y}}, i, 5)
				checkSign(t, env.Sign{On: true, V: []int{2, x, y, -7}}, i, -5)
			}
		}
	}
}

func TestEnvsByHand(t *testing.T) {
	e := env.Flat{On: true, V: []flat.Val{one(6), one(7), top, bot, one(api.MaxConst), one(api.MinConst)}}
	g := env.Sign{On: true, V: []int{sign.More, sign.Less, sign.All, 0, sign.Zero | sign.More, sign.Zero}}
	for _, x := range []struct {
		i     api.Instr
		val   flat.Val
		signs int
	}{
		{api.Instr{Kind: api.Const, C: -3}, one(-3), sign.Less},
		{api.Instr{Kind: api.Const, C: 0}, one(0), sign.Zero},
		{api.Instr{Kind: api.Const, C: api.MinConst}, one(api.MinConst), sign.Less},
		{api.Instr{Kind: api.Const, C: api.MaxConst}, one(api.MaxConst), sign.More},
		{api.Instr{Kind: api.Copy, A: 4}, one(api.MaxConst), sign.Zero | sign.More},
		{api.Instr{Kind: api.Copy, A: 3}, bot, 0},
		{api.Instr{Kind: api.Copy, A: 6}, bot, 0},
		{api.Instr{Kind: api.Neg, A: 1}, one(-7), sign.More},
		{api.Instr{Kind: api.Neg, A: 4}, one(-api.MaxConst), sign.Less | sign.Zero},
		{api.Instr{Kind: api.Neg, A: 5}, one(api.MinConst), sign.Zero},
		{api.Instr{Kind: api.Neg, A: 2}, top, sign.All},
		{api.Instr{Kind: api.Add, A: 0, B: 1}, one(13), sign.All},
		{api.Instr{Kind: api.Add, A: 4, B: 0}, one(api.MinConst + 5), sign.More},
		{api.Instr{Kind: api.Add, A: 3, B: 2}, bot, 0},
		{api.Instr{Kind: api.Add, A: 0, B: 9}, bot, 0},
		{api.Instr{Kind: api.Sub, A: 0, B: 1}, one(-1), sign.More},
		{api.Instr{Kind: api.Sub, A: 1, B: 0}, one(1), sign.Less},
		{api.Instr{Kind: api.Sub, A: 2, B: 0}, top, sign.All},
		{api.Instr{Kind: api.Mul, A: 0, B: 1}, one(42), sign.Less},
		{api.Instr{Kind: api.Mul, A: 4, B: 4}, one(1), sign.Zero | sign.More},
		{api.Instr{Kind: api.Mul, A: 2, B: 5}, top, sign.Zero},
		{api.Instr{Kind: api.Input}, top, sign.All},
		{api.Instr{Kind: api.Call, F: 2, N: 1, Args: [3]int{1}}, top, sign.Less | sign.Zero},
		{api.Instr{Kind: api.Use, A: 1}, one(6), sign.More},
		{api.Instr{Kind: api.Ret, A: 1}, one(6), sign.More},
		{api.Instr{Kind: api.Input, Dst: 6}, one(6), sign.More},
		{api.Instr{Kind: api.Input, Dst: math.MaxInt}, one(6), sign.More},
		{api.Instr{Kind: api.Input, C: 1}, one(6), sign.More},
	} {
		if got := instr.Flat(e, x.i); !got.On || got.V[0] != x.val || !slices.Equal(got.V[1:], e.V[1:]) {
			t.Errorf("Flat(%+v) = %v", x.i, got)
		}
		if got := instr.Sign(g, x.i, sign.Less|sign.Zero); !got.On || got.V[0] != x.signs || !slices.Equal(got.V[1:], g.V[1:]) {
			t.Errorf("Sign(%+v) = %v", x.i, got)
		}
	}
}

func TestEnvsThatAreNotOn(t *testing.T) {
	for _, i := range few() {
		for _, e := range []env.Flat{{}, {V: []flat.Val{}}, {V: []flat.Val{one(1), one(2)}}} {
			if got := instr.Flat(e, i); got.On || got.V != nil {
				t.Errorf("Flat(%v, %+v) = %v", e, i, got)
			}
		}
		for _, e := range []env.Sign{{}, {V: []int{}}, {V: []int{1, 2}}} {
			if got := instr.Sign(e, i, 4); got.On || got.V != nil {
				t.Errorf("Sign(%v, %+v) = %v", e, i, got)
			}
		}
	}
}

func TestAllValuesThatAreToldMayBe(t *testing.T) {
	mayNot := env.Flat{On: true, V: vals[10:]}
	for _, i := range few() {
		for k, v := range instr.Flat(mayNot, i).V {
			if v != top && k != i.Dst || !flat.Sane(v) {
				t.Fatal(i, k, v)
			}
		}
		for _, answer := range signSets {
			for k, s := range instr.Sign(env.Sign{On: true, V: signSets[8:]}, i, answer).V {
				if s != 7 && k != i.Dst || !sign.Sane(s) {
					t.Fatal(i, k, s)
				}
			}
		}
	}
	call := api.Instr{Kind: api.Call, Dst: 1}
	for _, answer := range []int{-1, 8, math.MinInt, math.MaxInt} {
		if got := instr.Sign(env.Sign{On: true, V: []int{1, 1, 9}}, call, answer); !slices.Equal(got.V, []int{1, 7, 7}) {
			t.Error(answer, got)
		}
	}
	for answer := range 8 {
		if got := instr.Sign(env.Sign{On: true, V: []int{1, 1, 9}}, call, answer); !slices.Equal(got.V, []int{1, answer, 7}) {
			t.Error(answer, got)
		}
	}
}

// P5.5

func TestName(t *testing.T) {
	for kind, want := range names {
		if got := instr.Name(kind); got != want {
			t.Errorf("Name(%d) = %q", kind, got)
		}
	}
	for _, kind := range []int{math.MinInt, -10, -1, 10, 11, 1 << 32, math.MaxInt} {
		if got := instr.Name(kind); got != "" {
			t.Errorf("Name(%d) = %q", kind, got)
		}
	}
}

// P5.6

func TestWithMoreKnownNoLessComesOfSets(t *testing.T) {
	for n := range 5 {
		for x := range uint64(1) << n {
			for y := range uint64(1) << n {
				if x&^y != 0 {
					continue
				}
				low, high := setOf(n, x), setOf(n, y)
				for _, i := range few() {
					for _, ids := range [][]int{nil, {1}, {0, 2, 9}} {
						if !bits.Leq(instr.Reach(low, i, ids), instr.Reach(high, i, ids)) {
							t.Fatalf("Reach(%b, %b, %+v, %v)", x, y, i, ids)
						}
					}
					if !bits.Leq(instr.Live(low, i), instr.Live(high, i)) {
						t.Fatalf("Live(%b, %b, %+v)", x, y, i)
					}
				}
			}
		}
	}
}

func setOf(n int, digits uint64) bits.Set {
	s := bits.New(n)
	if n > 0 {
		s.W[0] = digits
	}
	return s
}

func TestWithMoreKnownNoLessComesOfNumbers(t *testing.T) {
	l := envsOf([]flat.Val{bot, one(0), one(-2), top, {K: 7}})
	for _, i := range few() {
		for _, low := range l {
			for _, high := range l {
				if len(low.V) <= len(high.V) && env.LeqFlat(low, high) && !env.LeqFlat(instr.Flat(low, i), instr.Flat(high, i)) {
					t.Fatalf("%+v: %v, %v", i, low, high)
				}
			}
		}
	}
}

func TestWithMoreKnownNoLessComesOfSigns(t *testing.T) {
	l := envsOf([]int{0, 1, 2, 4, 6, 7, -1})
	for _, i := range few() {
		for _, low := range l {
			for _, high := range l {
				if len(low.V) > len(high.V) || !env.LeqSign(low, high) {
					continue
				}
				for _, answers := range [][2]int{{0, 0}, {0, 2}, {1, 5}, {4, 7}, {3, -1}, {9, 7}} {
					if !env.LeqSign(instr.Sign(low, i, answers[0]), instr.Sign(high, i, answers[1])) {
						t.Fatalf("%+v: %v, %v, %v", i, low, high, answers)
					}
				}
			}
		}
	}
}

// envsOf is all Envs of these values of up to two places.
func envsOf[T any](v []T) []env.Env[T] {
	l := []env.Env[T]{{}, {On: true}}
	for _, x := range v {
		l = append(l, env.Env[T]{On: true, V: []T{x}})
		for _, y := range v {
			l = append(l, env.Env[T]{On: true, V: []T{x, y}})
		}
	}
	return l
}

// TestSignsFollowNumbers: what is known of numbers and of signs does not part ways, while nothing wraps.
func TestSignsFollowNumbers(t *testing.T) {
	small := []flat.Val{bot, top, one(-3), one(-1), one(0), one(1), one(6)}
	for _, i := range few() {
		for _, x := range small {
			for _, y := range small {
				e := env.Flat{On: true, V: []flat.Val{x, y}}
				g := env.Sign{On: true, V: []int{sign.FromFlat(x), sign.FromFlat(y)}}
				after, signs := instr.Flat(e, i), instr.Sign(g, i, sign.All)
				for k, v := range after.V {
					known := v.K == 1
					if known && signs.V[k]&signOf(v.C) == 0 {
						t.Fatalf("%+v: %v, %v", i, after, signs)
					}
				}
			}
		}
	}
}

// P1 and the rules R1 to R4

func TestNothingHandedInIsChangedOrShared(t *testing.T) {
	for _, i := range few() {
		before := i
		s := bits.Of(96, []int{1, 2, 5, 70})
		ids := []int{5, 1, 200, -3, 2, 99}[:4]
		e := []flat.Val{one(1), {K: 9}, top, one(5)}
		g := []int{1, 9, 7, 5}
		reach, live := instr.Reach(s, i, ids), instr.Live(s, i)
		flats, signs := instr.Flat(env.Flat{On: true, V: e[:3]}, i), instr.Sign(env.Sign{On: true, V: g[:3]}, i, 2)
		if !slices.Equal(bits.List(s), []int{1, 2, 5, 70}) || !slices.Equal(ids[:6], []int{5, 1, 200, -3, 2, 99}) || i != before ||
			!slices.Equal(e, []flat.Val{one(1), {K: 9}, top, one(5)}) || !slices.Equal(g, []int{1, 9, 7, 5}) {
			t.Fatalf("%+v: %v %v %v %v", i, s, ids, e, g)
		}
		alone(t, reach.W, s.W, 1<<40)
		alone(t, live.W, s.W, 1<<40)
		alone(t, reach.W, live.W, 1<<40)
		alone(t, flats.V, e, one(99))
		alone(t, signs.V, g, 3)
	}
}

func TestListsAreNewMemory(t *testing.T) {
	for _, i := range few() {
		alone(t, instr.Uses(i), instr.Uses(i), 99)
		alone(t, instr.Vars(i), instr.Vars(i), 99)
		alone(t, instr.Uses(i), instr.Vars(i), 99)
	}
}

// alone writes over one list, up to its capacity, and back: the other one has to stay as it was, and so the other way.
func alone[T comparable](t *testing.T, a, b []T, with T) {
	t.Helper()
	for range 2 {
		a, b = a[:cap(a)], b[:cap(b)]
		was, stays := slices.Clone(a), slices.Clone(b)
		for k := range a {
			a[k] = with
		}
		if !slices.Equal(b, stays) {
			t.Fatal("shared memory", a, b)
		}
		copy(a, was)
		a, b = b, a
	}
}

func TestEveryCallAnswersTheSameAgain(t *testing.T) {
	s := bits.Of(96, []int{1, 2, 5})
	e := env.Flat{On: true, V: []flat.Val{one(1), top}}
	g := env.Sign{On: true, V: []int{1, 7}}
	for _, i := range few() {
		for range 2 {
			check(t, i)
			checkFlat(t, e, i)
			checkSign(t, g, i, 3)
			if !bits.Same(instr.Reach(s, i, []int{1}), instr.Reach(s, i, []int{1})) || !bits.Same(instr.Live(s, i), instr.Live(s, i)) {
				t.Fatal(i)
			}
		}
	}
}
