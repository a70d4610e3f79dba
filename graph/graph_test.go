package graph_test

import (
	"math"
	"slices"
	"testing"

	"bywash/api"
	"bywash/graph"
)

// wild are numbers that are no nodes of a graph of few.
var wild = []int{-1, -2, math.MinInt, math.MinInt32, math.MaxInt32, math.MaxInt, 1 << 32, -1 << 32}

func diamond() [][]int { return [][]int{{1, 2}, {3}, {3}, {}} }

func same(a, b [][]int) bool { return slices.EqualFunc(a, b, slices.Equal[[]int]) }

func copied(g [][]int) [][]int {
	c := make([][]int, len(g))
	for a, l := range g {
		c[a] = slices.Clone(l)
	}
	return c
}

// chain is n nodes, each followed by the next one.
func chain(n int) [][]int {
	g := make([][]int, n)
	for a := range n - 1 {
		g[a] = []int{a + 1}
	}
	return g
}

// circle is a chain whose last node is followed by the first one.
func circle(n int) [][]int {
	g := chain(n)
	g[n-1] = []int{0}
	return g
}

// upTo is 0 to n - 1.
func upTo(n int) []int {
	var l []int
	for a := range n {
		l = append(l, a)
	}
	return l
}

func backwards(l []int) []int {
	c := slices.Clone(l)
	slices.Reverse(c)
	return c
}

// sample is a graph, and what is told of it, written by hand; orders[from] is of the node from, and nothing of one that is none.
type sample struct {
	name        string
	g           [][]int
	clean, turn [][]int
	orders      [][]int
}

func samples() []sample {
	return []sample{
		{name: "nil"},
		{"no node", [][]int{}, nil, nil, nil},
		{"one node", [][]int{nil}, [][]int{{}}, [][]int{{}}, [][]int{{0}}},
		{"an edge to itself", [][]int{{0}}, [][]int{{0}}, [][]int{{0}}, [][]int{{0}}},
		{"the example", diamond(), diamond(), [][]int{{}, {0}, {0}, {1, 2}}, [][]int{{0, 2, 1, 3}, {1, 3}, {2, 3}, {3}}},
		{"falling", [][]int{{2, 1}, {3}, {3}, nil}, diamond(), [][]int{{}, {0}, {0}, {1, 2}}, [][]int{{0, 2, 1, 3}, {1, 3}, {2, 3}, {3}}},
		{"there twice", [][]int{{1, 2, 1}, {0, 0}, {2, 2, 2}}, [][]int{{1, 2}, {0}, {2}}, [][]int{{1}, {0}, {0, 2}}, [][]int{{0, 2, 1}, {1, 0, 2}, {2}}},
		{"twice, falling", [][]int{{2, 1, 2, 1, 0}, {}, {}}, [][]int{{0, 1, 2}, {}, {}}, [][]int{{0}, {0}, {0}}, [][]int{{0, 2, 1}, {1}, {2}}},
		{"no nodes", [][]int{{-1, 1, 2}, {2, 3, -7, 0}}, [][]int{{1}, {0}}, [][]int{{1}, {0}}, [][]int{{0, 1}, {1, 0}}},
		{"far from nodes", [][]int{wild, append([]int{1}, wild...)}, [][]int{{}, {1}}, [][]int{{}, {1}}, [][]int{{0}, {1}}},
		{"a circle of two", [][]int{{1}, {0}}, [][]int{{1}, {0}}, [][]int{{1}, {0}}, [][]int{{0, 1}, {1, 0}}},
		{"a circle of three", [][]int{{1}, {2}, {0}}, [][]int{{1}, {2}, {0}}, [][]int{{2}, {0}, {1}}, [][]int{{0, 1, 2}, {1, 2, 0}, {2, 0, 1}}},
		{"each after each", [][]int{{0, 1, 2}, {0, 1, 2}, {0, 1, 2}}, [][]int{{0, 1, 2}, {0, 1, 2}, {0, 1, 2}}, [][]int{{0, 1, 2}, {0, 1, 2}, {0, 1, 2}}, [][]int{{0, 1, 2}, {1, 0, 2}, {2, 0, 1}}},
		{"one circle within the other", [][]int{{1}, {2, 4}, {3}, {1}, {5, 0}, nil}, [][]int{{1}, {2, 4}, {3}, {1}, {0, 5}, {}}, [][]int{{4}, {0, 3}, {1}, {2}, {1}, {4}}, [][]int{{0, 1, 4, 5, 2, 3}, {1, 4, 5, 0, 2, 3}, {2, 3, 1, 4, 5, 0}, {3, 1, 4, 5, 0, 2}, {4, 5, 0, 1, 2, 3}, {5}}},
		{"two circles", [][]int{{1}, {2, 4}, {3}, {1}, {5}, {4}}, [][]int{{1}, {2, 4}, {3}, {1}, {5}, {4}}, [][]int{{}, {0, 3}, {1}, {2}, {1, 5}, {4}}, [][]int{{0, 1, 4, 5, 2, 3}, {1, 4, 5, 2, 3}, {2, 3, 1, 4, 5}, {3, 1, 4, 5, 2}, {4, 5}, {5, 4}}},
		{"nothing leads there", [][]int{{2}, {0, 2}, {}}, [][]int{{2}, {0, 2}, {}}, [][]int{{1}, {}, {0, 1}}, [][]int{{0, 2}, {1, 0, 2}, {2}}},
		{"a follower of a follower", [][]int{{1, 2, 3}, {2}, {3}, {}}, [][]int{{1, 2, 3}, {2}, {3}, {}}, [][]int{{}, {0}, {0, 1}, {0, 2}}, [][]int{{0, 1, 2, 3}, {1, 2, 3}, {2, 3}, {3}}},
		{"a follower of a later one", [][]int{{1, 2}, {}, {1}}, [][]int{{1, 2}, {}, {1}}, [][]int{{}, {0, 2}, {0}}, [][]int{{0, 2, 1}, {1}, {2, 1}}},
		{"met by two ways", [][]int{{1, 4}, {2}, {3}, {}, {2}}, [][]int{{1, 4}, {2}, {3}, {}, {2}}, [][]int{{}, {0}, {1, 4}, {2}, {0}}, [][]int{{0, 4, 1, 2, 3}, {1, 2, 3}, {2, 3}, {3}, {4, 2, 3}}},
	}
}

func TestSamples(t *testing.T) {
	for _, s := range samples() {
		if got := graph.Clean(s.g); !same(got, s.clean) {
			t.Errorf("%s: Clean is %v", s.name, got)
		}
		if got := graph.Turn(s.g); !same(got, s.turn) {
			t.Errorf("%s: Turn is %v", s.name, got)
		}
		for from, want := range s.orders {
			if got := graph.Order(s.g, from); !slices.Equal(got, want) {
				t.Errorf("%s: Order from %d is %v, not %v", s.name, from, got, want)
			}
			for a, got := range graph.Reach(s.g, from) {
				if got != slices.Contains(want, a) {
					t.Errorf("%s: Reach from %d tells %v of %d", s.name, from, got, a)
				}
			}
		}
	}
}

func TestFromNoNode(t *testing.T) {
	for _, s := range samples() {
		for _, from := range append([]int{len(s.g), len(s.g) + 1}, wild...) {
			if got := graph.Order(s.g, from); len(got) != 0 {
				t.Errorf("%s: Order from %d is %v", s.name, from, got)
			}
			if got := graph.Reach(s.g, from); len(got) != len(s.g) || slices.Contains(got, true) {
				t.Errorf("%s: Reach from %d is %v", s.name, from, got)
			}
		}
	}
}

func TestPath(t *testing.T) {
	inner := [][]int{{1}, {2, 4}, {3}, {1}, {5}, nil}
	for _, x := range []struct {
		g    [][]int
		a, b int
		want bool
	}{
		{nil, 0, 0, false},
		{[][]int{nil}, 0, 0, false},
		{[][]int{{0}}, 0, 0, true},
		{[][]int{{0, 1}}, 0, 1, false},
		{[][]int{{0, -1}}, 0, -1, false},
		{[][]int{{math.MaxInt, math.MinInt}}, 0, math.MaxInt, false},
		{[][]int{{math.MaxInt, math.MinInt}}, 0, math.MinInt, false},
		{[][]int{{0}}, 1, 0, false},
		{[][]int{{0}}, -1, 0, false},
		{[][]int{{0}}, math.MaxInt, math.MaxInt, false},
		{[][]int{{0}}, math.MinInt, 0, false},
		{circle(2), 0, 0, true},
		{circle(2), 1, 1, true},
		{circle(3), 2, 2, true},
		{circle(3), 2, 1, true},
		{chain(3), 0, 2, true},
		{chain(3), 0, 1, true},
		{chain(3), 0, 0, false},
		{chain(3), 2, 2, false},
		{chain(3), 2, 0, false},
		{chain(3), 1, 0, false},
		{inner, 1, 1, true},
		{inner, 3, 3, true},
		{inner, 0, 0, false},
		{inner, 4, 4, false},
		{inner, 2, 5, true},
		{inner, 5, 4, false},
		{inner, 4, 1, false},
		{chain(700), 0, 699, true},
		{chain(700), 699, 0, false},
		{chain(700), 350, 350, false},
		{circle(700), 350, 350, true},
	} {
		if got := graph.Path(x.g, x.a, x.b); got != x.want {
			t.Errorf("Path from %d to %d of %d nodes is %v", x.a, x.b, len(x.g), got)
		}
	}
}

func TestWith(t *testing.T) {
	g := [][]int{{2, 1, 2, -1}, {3, 9}, {3, 0}, nil}
	clean := [][]int{{1, 2}, {3}, {0, 3}, {}}
	for _, x := range []struct {
		a, b int
		want [][]int
	}{
		{0, 0, [][]int{{0, 1, 2}, {3}, {0, 3}, {}}},
		{0, 3, [][]int{{1, 2, 3}, {3}, {0, 3}, {}}},
		{2, 1, [][]int{{1, 2}, {3}, {0, 1, 3}, {}}},
		{2, 2, [][]int{{1, 2}, {3}, {0, 2, 3}, {}}},
		{3, 3, [][]int{{1, 2}, {3}, {0, 3}, {3}}},
		{3, 0, [][]int{{1, 2}, {3}, {0, 3}, {0}}},
		{0, 2, clean}, {0, 1, clean}, {1, 3, clean}, {2, 0, clean},
		{0, 4, clean}, {4, 0, clean}, {0, -1, clean}, {-1, 0, clean}, {4, 4, clean}, {-1, -1, clean}, {1, 9, clean},
	} {
		if got := graph.With(g, x.a, x.b); !same(got, x.want) {
			t.Errorf("With %d to %d is %v", x.a, x.b, got)
		}
	}
}

func TestWithout(t *testing.T) {
	g := [][]int{{2, 1, 2, -1, 3}, {3, 9}, {3, 0, 3, 3}, nil}
	clean := [][]int{{1, 2, 3}, {3}, {0, 3}, {}}
	for _, x := range []struct {
		a, b int
		want [][]int
	}{
		{0, 1, [][]int{{2, 3}, {3}, {0, 3}, {}}},
		{0, 2, [][]int{{1, 3}, {3}, {0, 3}, {}}},
		{0, 3, [][]int{{1, 2}, {3}, {0, 3}, {}}},
		{1, 3, [][]int{{1, 2, 3}, {}, {0, 3}, {}}},
		{2, 3, [][]int{{1, 2, 3}, {3}, {0}, {}}},
		{2, 0, [][]int{{1, 2, 3}, {3}, {3}, {}}},
		{0, 0, clean}, {1, 0, clean}, {1, 2, clean}, {2, 1, clean}, {3, 3, clean}, {3, 0, clean},
		{0, -1, clean}, {1, 9, clean}, {0, 4, clean}, {4, 0, clean}, {-1, 0, clean}, {-1, -1, clean}, {4, 4, clean},
	} {
		if got := graph.Without(g, x.a, x.b); !same(got, x.want) {
			t.Errorf("Without %d to %d is %v", x.a, x.b, got)
		}
	}
}

func TestEdgesOfNoNodes(t *testing.T) {
	for _, s := range samples() {
		for _, n := range append([]int{len(s.g), len(s.g) + 1}, wild...) {
			for _, x := range [][2]int{{0, n}, {n, 0}, {n, n}, {len(s.g) - 1, n}, {n, len(s.g) - 1}} {
				if got := graph.With(s.g, x[0], x[1]); !same(got, s.clean) {
					t.Errorf("%s: With %v is %v", s.name, x, got)
				}
				if got := graph.Without(s.g, x[0], x[1]); !same(got, s.clean) {
					t.Errorf("%s: Without %v is %v", s.name, x, got)
				}
				if graph.Path(s.g, x[0], x[1]) {
					t.Errorf("%s: there is a Path of %v", s.name, x)
				}
			}
		}
	}
}

func TestOf(t *testing.T) {
	code := []api.Instr{{Kind: 77, A: -1}}
	for _, x := range []struct {
		name string
		f    api.Fun
		want [][]int
	}{
		{"nothing", api.Fun{}, nil},
		{"no blocks", api.Fun{Arity: 2, Vars: 3, Blocks: []api.Block{}}, nil},
		{"one", api.Fun{Blocks: []api.Block{{Live: true, Code: code}}}, [][]int{{}}},
		{"one to itself", api.Fun{Blocks: []api.Block{{Live: true, Succ: []int{0}}}}, [][]int{{0}}},
		{"one, not Live, to itself", api.Fun{Blocks: []api.Block{{Succ: []int{0}, Code: code}}}, [][]int{{}}},
		{"not Live between", api.Fun{Arity: -1, Vars: 99, Blocks: []api.Block{
			{Live: true, Succ: []int{2, 0}}, {Succ: []int{0, 2}}, {Live: true, Code: code},
		}}, [][]int{{0, 2}, {}, {}}},
		{"not Live, followed by and following", api.Fun{Blocks: []api.Block{
			{Live: true, Succ: []int{3, 1}}, {Succ: []int{2}}, {Succ: []int{1}}, {Live: true, Succ: []int{1, 2, 0}},
		}}, [][]int{{1, 3}, {}, {}, {0, 1, 2}}},
		{"no blocks follow", api.Fun{Blocks: []api.Block{
			{Live: true, Succ: []int{2, -1, 1, math.MaxInt, 1, math.MinInt}}, {Live: true, Succ: []int{-1, 2}},
		}}, [][]int{{1}, {}}},
		{"falling, twice", api.Fun{Blocks: []api.Block{
			{Live: true, Succ: []int{2, 1, 2, 0, 1}}, {Live: true, Succ: []int{0, 0}}, {Succ: []int{1, 1}},
		}}, [][]int{{0, 1, 2}, {0}, {}}},
		{"more than may be", api.Fun{Blocks: slices.Repeat([]api.Block{{Live: true, Succ: []int{39, 13}}}, 40)},
			slices.Repeat([][]int{{13, 39}}, 40)},
	} {
		if got := graph.Of(x.f); !same(got, x.want) {
			t.Errorf("%s: Of is %v", x.name, got)
		}
	}
}

func TestLongOnes(t *testing.T) {
	for _, n := range []int{2, 65, 300, 700, 100000} {
		all := upTo(n)
		for _, x := range []struct {
			name string
			g    [][]int
			from int
			want []int
		}{
			{"a chain", chain(n), 0, all},
			{"a chain from its middle", chain(n), n / 2, all[n/2:]},
			{"a chain from its end", chain(n), n - 1, all[n-1:]},
			{"a chain turned around", graph.Turn(chain(n)), n - 1, backwards(all)},
			{"a circle", circle(n), 0, all},
			{"a circle from its middle", circle(n), n / 2, append(slices.Clone(all[n/2:]), all[:n/2]...)},
		} {
			if got := graph.Order(x.g, x.from); !slices.Equal(got, x.want) {
				t.Errorf("Order of %s of %d is not that", x.name, n)
			}
			if got := graph.Reach(x.g, x.from); len(got) != n || slices.Contains(got, false) != (len(x.want) < n) {
				t.Errorf("Reach of %s of %d is not that", x.name, n)
			}
		}
	}
}

// TestWideOnes: a node that many follow, each of them followed by all of these.
func TestWideOnes(t *testing.T) {
	const n = 600
	g := slices.Repeat([][]int{backwards(upTo(n))}, n)
	if got := graph.Order(g, 0); !slices.Equal(got, upTo(n)) {
		t.Error("Order of each after each is not that")
	}
	fan := make([][]int, n)
	fan[0] = upTo(n)
	if got, want := graph.Order(fan, 0), append([]int{0}, backwards(upTo(n)[1:])...); !slices.Equal(got, want) {
		t.Error("Order of a fan is not that")
	}
}

// What follows is the chapter's words, told apart from the calls.

// edges tells of each two nodes whether the second follows the first.
func edges(g [][]int) [][]bool {
	e := make([][]bool, len(g))
	for a := range g {
		e[a] = make([]bool, len(g))
		for b := range g {
			e[a][b] = slices.Contains(g[a], b)
		}
	}
	return e
}

// ways tells of each two nodes whether there is a way of one step at least.
func ways(e [][]bool) [][]bool {
	w := make([][]bool, len(e))
	for a := range e {
		w[a] = slices.Clone(e[a])
	}
	for over := range w {
		for a := range w {
			for b := range w {
				w[a][b] = w[a][b] || w[a][over] && w[over][b]
			}
		}
	}
	return w
}

func lists(e [][]bool, turned bool) [][]int {
	l := make([][]int, len(e))
	for a := range e {
		for b := range e {
			if e[a][b] && !turned || e[b][a] && turned {
				l[a] = append(l[a], b)
			}
		}
	}
	return l
}

// goTo puts what it tells ahead of what was told.
func goTo(e [][]bool, a int, gone []bool, told []int) []int {
	gone[a] = true
	for b := range e {
		if e[a][b] && !gone[b] {
			told = goTo(e, b, gone, told)
		}
	}
	return append([]int{a}, told...)
}

func isNode(n, a int) bool { return 0 <= a && a < n }

func wantOrder(e [][]bool, from int) []int {
	if !isNode(len(e), from) {
		return nil
	}
	return goTo(e, from, make([]bool, len(e)), nil)
}

// withEdge is e, in which b follows a, or does not.
func withEdge(e [][]bool, a, b int, follows bool) [][]bool {
	c := make([][]bool, len(e))
	for k := range e {
		c[k] = slices.Clone(e[k])
	}
	if isNode(len(e), a) && isNode(len(e), b) {
		c[a][b] = follows
	}
	return c
}

func checkWays(t *testing.T, g [][]int) {
	t.Helper()
	e := edges(g)
	w := ways(e)
	if !same(graph.Clean(g), lists(e, false)) {
		t.Errorf("Clean of %v is %v", g, graph.Clean(g))
	}
	if !same(graph.Turn(g), lists(e, true)) {
		t.Errorf("Turn of %v is %v", g, graph.Turn(g))
	}
	for from := -1; from <= len(g); from++ {
		order, reach := graph.Order(g, from), graph.Reach(g, from)
		if !slices.Equal(order, wantOrder(e, from)) {
			t.Errorf("Order of %v from %d is %v", g, from, order)
		}
		if len(reach) != len(g) {
			t.Fatalf("Reach of %v from %d is %v", g, from, reach)
		}
		for b := -1; b <= len(g); b++ {
			way := isNode(len(g), from) && isNode(len(g), b) && w[from][b]
			if graph.Path(g, from, b) != way {
				t.Errorf("Path of %v from %d to %d is not %v", g, from, b, way)
			}
			if isNode(len(g), b) && reach[b] != (way || from == b) {
				t.Errorf("Reach of %v from %d is %v", g, from, reach)
			}
		}
	}
}

func checkChanges(t *testing.T, g [][]int) {
	t.Helper()
	e := edges(g)
	for a := -1; a <= len(g); a++ {
		for b := -1; b <= len(g); b++ {
			if got := graph.With(g, a, b); !same(got, lists(withEdge(e, a, b, true), false)) {
				t.Errorf("With of %v from %d to %d is %v", g, a, b, got)
			}
			if got := graph.Without(g, a, b); !same(got, lists(withEdge(e, a, b, false), false)) {
				t.Errorf("Without of %v from %d to %d is %v", g, a, b, got)
			}
		}
	}
}

// small is the graph of n nodes that a number tells, an edge a digit.
func small(n, number int) [][]int {
	g := make([][]int, n)
	for a := range n {
		for b := range n {
			if number>>(a*n+b)&1 == 1 {
				g[a] = append(g[a], b)
			}
		}
	}
	return g
}

func TestSmallGraphs(t *testing.T) {
	for n := range 4 {
		for number := range 1 << (n * n) {
			checkWays(t, small(n, number))
			checkChanges(t, small(n, number))
		}
	}
}

func TestGraphsOfFour(t *testing.T) {
	for number := 0; number < 1<<16; number += 3 {
		checkWays(t, small(4, number))
	}
}

type numbersOf struct{ seed uint32 }

func (r *numbersOf) below(n int) int {
	r.seed = r.seed*1664525 + 1013904223
	return int(r.seed>>8) % n
}

// rolled is a graph of up to most nodes, in which followers stand twice, fall, and are no nodes.
func rolled(r *numbersOf, most int) [][]int {
	g := make([][]int, r.below(most+1))
	for a := range g {
		for range r.below(5) {
			switch r.below(8) {
			case 0:
				g[a] = append(g[a], wild[r.below(len(wild))])
			case 1:
				g[a] = append(g[a], len(g)+r.below(3))
			default:
				g[a] = append(g[a], r.below(len(g)))
			}
		}
	}
	return g
}

func TestRolledGraphs(t *testing.T) {
	r := &numbersOf{10}
	for range 2000 {
		checkWays(t, rolled(r, 12))
	}
	for range 300 {
		checkChanges(t, rolled(r, 9))
	}
	for range 3 {
		checkWays(t, rolled(r, 90))
	}
}

// TestNotLookedAt: what is not looked at, and how followers stand, changes nothing.
func TestNotLookedAt(t *testing.T) {
	r := &numbersOf{11}
	for range 500 {
		g := rolled(r, 9)
		c := graph.Clean(g)
		if !same(graph.Clean(c), c) || !same(graph.Turn(g), graph.Turn(c)) || !same(graph.Turn(graph.Turn(g)), c) {
			t.Fatalf("of %v and of it cleaned is not the same told", g)
		}
		for a := range g {
			if !slices.Equal(graph.Order(g, a), graph.Order(c, a)) || !slices.Equal(graph.Reach(g, a), graph.Reach(c, a)) {
				t.Fatalf("of %v and of it cleaned is not the same told from %d", g, a)
			}
		}
	}
}

func TestOfRolled(t *testing.T) {
	r := &numbersOf{12}
	for range 1000 {
		g := rolled(r, 14)
		f := api.Fun{Arity: r.below(9) - 1, Vars: r.below(9) - 1}
		want := make([][]int, len(g))
		for b := range g {
			live := r.below(3) > 0
			f.Blocks = append(f.Blocks, api.Block{Live: live, Succ: g[b]})
			for to := range g {
				if live && slices.Contains(g[b], to) {
					want[b] = append(want[b], to)
				}
			}
		}
		if got := graph.Of(f); !same(got, want) {
			t.Fatalf("Of %v is %v", f, got)
		}
	}
}

// TestTopological: where there are no circles each edge leads on in the order.
func TestTopological(t *testing.T) {
	for number := range 1 << 16 {
		g := small(4, number)
		e := edges(g)
		w := ways(e)
		if w[0][0] || w[1][1] || w[2][2] || w[3][3] {
			continue
		}
		for from := range g {
			order := graph.Order(g, from)
			if order[0] != from {
				t.Fatalf("Order of %v is %v", g, order)
			}
			for k, b := range order {
				for _, a := range order[k:] {
					if e[a][b] {
						t.Fatalf("Order of %v is %v: %d is behind %d", g, order, a, b)
					}
				}
			}
		}
	}
}

// What follows is about what is handed in, and what answers share.

// roomy is l with room behind its end, in which something stands.
func roomy(l []int) []int { return append(slices.Clone(l), 0, 1, 2, -5)[:len(l)] }

// wide is l with what stands behind its end.
func wide(l []int) []int { return slices.Clone(l[:cap(l)]) }

func roomyGraph(g [][]int) [][]int {
	l := make([][]int, len(g), len(g)+2)
	for a := range g {
		l[a] = roomy(g[a])
	}
	copy(l[len(g):cap(l)], [][]int{{0, 7}, {1}})
	return l
}

func wideGraph(g [][]int) [][]int {
	var l [][]int
	for _, row := range g[:cap(g)] {
		l = append(l, wide(row))
	}
	return l
}

func TestGraphStays(t *testing.T) {
	graphs := [][][]int{nil}
	for _, s := range samples() {
		graphs = append(graphs, s.g)
	}
	r := &numbersOf{13}
	for range 200 {
		graphs = append(graphs, rolled(r, 8))
	}
	for _, g := range graphs {
		in := roomyGraph(g)
		was := wideGraph(in)
		graph.Clean(in)
		graph.Turn(in)
		for a := -1; a <= len(g); a++ {
			graph.Reach(in, a)
			graph.Order(in, a)
			for b := -1; b <= len(g); b++ {
				graph.With(in, a, b)
				graph.Without(in, a, b)
				graph.Path(in, a, b)
			}
		}
		if !same(wideGraph(in), was) {
			t.Fatalf("%v became %v", was, wideGraph(in))
		}
	}
}

func TestFunStays(t *testing.T) {
	r := &numbersOf{14}
	for range 200 {
		in := roomyGraph(rolled(r, 8))
		was := wideGraph(in)
		f := api.Fun{}
		for b := range in {
			f.Blocks = append(f.Blocks, api.Block{Live: b%3 > 0, Succ: in[b]})
		}
		graph.Of(f)
		for b, block := range f.Blocks {
			if block.Live != (b%3 > 0) || !slices.Equal(block.Succ, in[b]) || !same(wideGraph(in), was) {
				t.Fatalf("%v became %v", was, f)
			}
		}
	}
}

// spoil writes over a list, and over all the room behind it.
func spoil(l []int) {
	l = l[:cap(l)]
	for k := range l {
		l[k] = 99
	}
}

// checkAlone tells whether the lists that are told of a graph hang on that graph, or on each other.
func checkAlone(t *testing.T, name string, g [][]int, tell func(g [][]int) [][]int) {
	t.Helper()
	in := roomyGraph(g)
	got := tell(in)
	want := copied(got)
	for _, l := range in {
		spoil(l)
	}
	clear(in)
	if !same(got, want) {
		t.Fatalf("%s of %v shares a list with it", name, g)
	}
	in = roomyGraph(g)
	was := wideGraph(in)
	got = tell(in)
	for a := range got {
		spoil(got[a])
		want[a] = got[a]
		if !same(got, want) {
			t.Fatalf("%s of %v: the list of %d is shared", name, g, a)
		}
	}
	clear(got)
	if !same(wideGraph(in), was) {
		t.Fatalf("%s of %v shares a list with it", name, g)
	}
}

func TestSharesNothing(t *testing.T) {
	r := &numbersOf{15}
	for range 100 {
		g := rolled(r, 6)
		checkAlone(t, "Clean", g, graph.Clean)
		checkAlone(t, "Turn", g, graph.Turn)
		checkAlone(t, "Of", g, func(g [][]int) [][]int {
			f := api.Fun{}
			for _, l := range g {
				f.Blocks = append(f.Blocks, api.Block{Live: true, Succ: l})
			}
			return graph.Of(f)
		})
		for a := -1; a <= len(g); a++ {
			for b := -1; b <= len(g); b++ {
				checkAlone(t, "With", g, func(g [][]int) [][]int { return graph.With(g, a, b) })
				checkAlone(t, "Without", g, func(g [][]int) [][]int { return graph.Without(g, a, b) })
			}
		}
	}
}

// TestAnswersStay: what was told stays as it was behind a change of what it was told of.
func TestAnswersStay(t *testing.T) {
	g := diamond()
	with := graph.With(g, 3, 0)
	without := graph.Without(with, 0, 1)
	both := graph.With(without, 0, 3)
	if !same(g, diamond()) || !same(with, [][]int{{1, 2}, {3}, {3}, {0}}) || !same(without, [][]int{{2}, {3}, {3}, {0}}) {
		t.Error("a change reached what was told ahead of it", g, with, without)
	}
	if !same(both, [][]int{{2, 3}, {3}, {3}, {0}}) {
		t.Error(both)
	}
}
