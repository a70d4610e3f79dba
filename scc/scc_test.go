package scc_test

import (
	"math"
	"slices"
	"testing"

	"bywash/graph"
	"bywash/scc"
)

// wild are numbers that are no nodes of a graph of few.
var wild = []int{-1, -2, math.MinInt, math.MinInt32, math.MaxInt32, math.MaxInt, 1 << 32, -1 << 32}

func same(a, b [][]int) bool { return slices.EqualFunc(a, b, slices.Equal[[]int]) }

// chain is n nodes, each followed by the next one.
func chain(n int) [][]int {
	g := make([][]int, n)
	for a := range n - 1 {
		g[a] = []int{a + 1}
	}
	return g
}

// circle is a chain whose last node is followed by the first one.
func circle(n int) [][]int {
	g := chain(n)
	g[n-1] = []int{0}
	return g
}

// upTo is 0 to n - 1.
func upTo(n int) []int {
	var l []int
	for a := range n {
		l = append(l, a)
	}
	return l
}

// sample is a graph, and what is told of it, written by hand; loops are the nodes that have a way to themselves.
type sample struct {
	name   string
	g      [][]int
	leads  []int
	parts  [][]int
	shrunk [][]int
	in     []int
	loops  []int
}

func samples() []sample {
	l := slices.Concat(simpleSamples(), circleSamples(), placedSamples(), oddSamples())
	return append(l, shrinkSamples()...)
}

func simpleSamples() []sample {
	return []sample{
		{name: "nil"},
		{name: "no node", g: [][]int{}},
		{"one node", [][]int{nil}, []int{0}, [][]int{{0}}, [][]int{{}}, []int{0}, nil},
		{"one with an edge to itself", [][]int{{0}}, []int{0}, [][]int{{0}}, [][]int{{}}, []int{0}, []int{0}},
		{"the example", [][]int{{1}, {0, 2}, {}}, []int{0, 0, 2}, [][]int{{0, 1}, {2}}, [][]int{{1}, {}}, []int{0, 0, 1}, []int{0, 1}},
		{"the example, 2 alone", [][]int{{1}, {0}, {}}, []int{0, 0, 2}, [][]int{{0, 1}, {2}}, [][]int{{}, {}}, []int{0, 0, 1}, []int{0, 1}},
		{"no edges", [][]int{nil, {}, nil}, []int{0, 1, 2}, [][]int{{0}, {1}, {2}}, [][]int{{}, {}, {}}, []int{0, 1, 2}, nil},
		{"a chain", chain(4), upTo(4), [][]int{{0}, {1}, {2}, {3}}, chain(4), upTo(4), nil},
		{"a chain turned around", [][]int{{}, {0}, {1}, {2}}, upTo(4), [][]int{{0}, {1}, {2}, {3}}, [][]int{{}, {0}, {1}, {2}}, upTo(4), nil},
		{"two ways to one", [][]int{{1, 2}, {3}, {3}, {}}, upTo(4), [][]int{{0}, {1}, {2}, {3}}, [][]int{{1, 2}, {3}, {3}, {}}, upTo(4), nil},
	}
}

func circleSamples() []sample {
	return []sample{
		{"a circle of two", circle(2), []int{0, 0}, [][]int{{0, 1}}, [][]int{{}}, []int{0, 0}, []int{0, 1}},
		{"a circle of three", circle(3), []int{0, 0, 0}, [][]int{{0, 1, 2}}, [][]int{{}}, []int{0, 0, 0}, []int{0, 1, 2}},
		{"a circle of three, falling", [][]int{{2}, {0}, {1}}, []int{0, 0, 0}, [][]int{{0, 1, 2}}, [][]int{{}}, []int{0, 0, 0}, []int{0, 1, 2}},
		{"each after each", [][]int{{0, 1, 2}, {0, 1, 2}, {0, 1, 2}}, []int{0, 0, 0}, [][]int{{0, 1, 2}}, [][]int{{}}, []int{0, 0, 0}, []int{0, 1, 2}},
		{"circles that share a node", [][]int{{1}, {0, 2}, {3}, {1}}, []int{0, 0, 0, 0}, [][]int{{0, 1, 2, 3}}, [][]int{{}}, []int{0, 0, 0, 0}, upTo(4)},
		{"circles that share the least", [][]int{{1, 3}, {2}, {0}, {4}, {0}}, make([]int, 5), [][]int{upTo(5)}, [][]int{{}}, make([]int, 5), upTo(5)},
		{"circles that share the greatest", [][]int{{4}, {0}, {3}, {4}, {1, 2}}, make([]int, 5), [][]int{upTo(5)}, [][]int{{}}, make([]int, 5), upTo(5)},
		{"one circle within the other", [][]int{{1}, {2, 4}, {3}, {1}, {0, 5}, nil}, []int{0, 0, 0, 0, 0, 5}, [][]int{{0, 1, 2, 3, 4}, {5}}, [][]int{{1}, {}}, []int{0, 0, 0, 0, 0, 1}, upTo(5)},
		{"circles one behind the other", [][]int{{1}, {0, 2}, {3}, {4}, {2}}, []int{0, 0, 2, 2, 2}, [][]int{{0, 1}, {2, 3, 4}}, [][]int{{1}, {}}, []int{0, 0, 1, 1, 1}, upTo(5)},
		{"circles one ahead of the other", [][]int{{1}, {0}, {3}, {4}, {2, 1}}, []int{0, 0, 2, 2, 2}, [][]int{{0, 1}, {2, 3, 4}}, [][]int{{}, {0}}, []int{0, 0, 1, 1, 1}, upTo(5)},
		{"three circles in a row", [][]int{{1}, {0, 3}, {5, 2}, {4}, {3, 5}, {2}}, []int{0, 0, 2, 3, 3, 2}, [][]int{{0, 1}, {2, 5}, {3, 4}}, [][]int{{2}, {}, {1}}, []int{0, 0, 1, 2, 2, 1}, upTo(6)},
		{"a way around a circle", [][]int{{1, 3}, {2}, {1, 3}, {4}, {0}}, make([]int, 5), [][]int{upTo(5)}, [][]int{{}}, make([]int, 5), upTo(5)},
	}
}

func placedSamples() []sample {
	return []sample{
		{"a circle met last, its lead not first", [][]int{{3}, {2}, {1}, {1, 0}}, []int{0, 1, 1, 0}, [][]int{{0, 3}, {1, 2}}, [][]int{{1}, {}}, []int{0, 1, 1, 0}, upTo(4)},
		{"a greater lead is met first", [][]int{{4}, {3}, {4}, {1}, {2, 3}}, []int{0, 1, 2, 1, 2}, [][]int{{0}, {1, 3}, {2, 4}}, [][]int{{2}, {}, {1}}, []int{0, 1, 2, 1, 2}, []int{1, 2, 3, 4}},
		{"leads met from behind", [][]int{{3}, {}, {1}, {2}}, upTo(4), [][]int{{0}, {1}, {2}, {3}}, [][]int{{3}, {}, {1}, {2}}, upTo(4), nil},
		{"a circle is met at its greatest", [][]int{{5}, {3}, {1}, {2}, {1}, {4}}, []int{0, 1, 1, 1, 4, 5}, [][]int{{0}, {1, 2, 3}, {4}, {5}}, [][]int{{3}, {}, {1}, {2}}, []int{0, 1, 1, 1, 2, 3}, []int{1, 2, 3}},
		{"the circle behind, its lead met last", [][]int{{4}, {2}, {3}, {4}, {1}}, []int{0, 1, 1, 1, 1}, [][]int{{0}, {1, 2, 3, 4}}, [][]int{{1}, {}}, []int{0, 1, 1, 1, 1}, []int{1, 2, 3, 4}},
		{"each between the other's nodes", [][]int{{2}, {3}, {4}, {5}, {0}, {1}}, []int{0, 1, 0, 1, 0, 1}, [][]int{{0, 2, 4}, {1, 3, 5}}, [][]int{{}, {}}, []int{0, 1, 0, 1, 0, 1}, upTo(6)},
		{"one within the other's nodes", [][]int{{4}, {2}, {3}, {1, 4}, {0}}, []int{0, 1, 1, 1, 0}, [][]int{{0, 4}, {1, 2, 3}}, [][]int{{}, {0}}, []int{0, 1, 1, 1, 0}, upTo(5)},
		{"nothing leads there", [][]int{{1}, {0}, {1, 3}, {}}, []int{0, 0, 2, 3}, [][]int{{0, 1}, {2}, {3}}, [][]int{{}, {0, 2}, {}}, []int{0, 0, 1, 2}, []int{0, 1}},
		{"nothing leads to the first", [][]int{{2}, {2}, {1}}, []int{0, 1, 1}, [][]int{{0}, {1, 2}}, [][]int{{1}, {}}, []int{0, 1, 1}, []int{1, 2}},
		{"it leads nowhere", [][]int{{1, 2}, {0}, {}, {}}, []int{0, 0, 2, 3}, [][]int{{0, 1}, {2}, {3}}, [][]int{{1}, {}, {}}, []int{0, 0, 1, 2}, []int{0, 1}},
		{"to a part that is known", [][]int{{1}, {0}, {3, 0}, {2, 1}}, []int{0, 0, 2, 2}, [][]int{{0, 1}, {2, 3}}, [][]int{{}, {0}}, []int{0, 0, 1, 1}, upTo(4)},
		{"a follower's part is known", [][]int{{1, 2}, {}, {1, 3}, {2, 1}}, []int{0, 1, 2, 2}, [][]int{{0}, {1}, {2, 3}}, [][]int{{1, 2}, {}, {1}}, []int{0, 1, 2, 2}, []int{2, 3}},
	}
}

func oddSamples() []sample {
	return []sample{
		{"there twice", [][]int{{1, 1, 2}, {0, 0}, {2, 2, 3}, {3, 3}}, []int{0, 0, 2, 3}, [][]int{{0, 1}, {2}, {3}}, [][]int{{1}, {2}, {}}, []int{0, 0, 1, 2}, upTo(4)},
		{"falling", [][]int{{3, 2, 1}, {0}, {3}, {}}, []int{0, 0, 2, 3}, [][]int{{0, 1}, {2}, {3}}, [][]int{{1, 2}, {2}, {}}, []int{0, 0, 1, 2}, []int{0, 1}},
		{"twice, falling", [][]int{{2, 1, 2, 1}, {2, 1, 2}, {1, 3, 1}, {}}, []int{0, 1, 1, 3}, [][]int{{0}, {1, 2}, {3}}, [][]int{{1}, {2}, {}}, []int{0, 1, 1, 2}, []int{1, 2}},
		{"no nodes", [][]int{{-1, 1}, {2, 3, -7, 0}}, []int{0, 0}, [][]int{{0, 1}}, [][]int{{}}, []int{0, 0}, []int{0, 1}},
		{"no nodes alone", [][]int{{-1, 2}, {2, -2}}, []int{0, 1}, [][]int{{0}, {1}}, [][]int{{}, {}}, []int{0, 1}, nil},
		{"far from nodes", [][]int{wild, append([]int{1}, wild...), append([]int{1}, wild...)}, upTo(3), [][]int{{0}, {1}, {2}}, [][]int{{}, {}, {1}}, upTo(3), []int{1}},
	}
}

func shrinkSamples() []sample {
	return []sample{
		{"several edges to one", [][]int{{1, 2, 3}, {0, 2, 3}, {3}, {2}}, []int{0, 0, 2, 2}, [][]int{{0, 1}, {2, 3}}, [][]int{{1}, {}}, []int{0, 0, 1, 1}, upTo(4)},
		{"several edges to one in front", [][]int{{1}, {0}, {3, 1, 0}, {2, 0, 1}}, []int{0, 0, 2, 2}, [][]int{{0, 1}, {2, 3}}, [][]int{{}, {0}}, []int{0, 0, 1, 1}, upTo(4)},
		{"edges inside alone", [][]int{{1, 0}, {0, 1}, {2, 3}, {3, 2}, {4}}, []int{0, 0, 2, 2, 4}, [][]int{{0, 1}, {2, 3}, {4}}, [][]int{{}, {}, {}}, []int{0, 0, 1, 1, 2}, upTo(5)},
		{"in front and behind", [][]int{{}, {2}, {1, 4, 0}, {}, {3}, {0, 4, 1}}, []int{0, 1, 1, 3, 4, 5}, [][]int{{0}, {1, 2}, {3}, {4}, {5}}, [][]int{{}, {0, 3}, {}, {2}, {0, 1, 3}}, []int{0, 1, 1, 2, 3, 4}, []int{1, 2}},
		{"parts rise, their nodes do not", [][]int{{5, 1}, {2}, {1}, {4}, {3}, {3, 0}}, []int{0, 1, 1, 3, 3, 0}, [][]int{{0, 5}, {1, 2}, {3, 4}}, [][]int{{1, 2}, {}, {}}, []int{0, 1, 1, 2, 2, 0}, upTo(6)},
		{"the later node follows first", [][]int{{5}, {2}, {1}, {4}, {3}, {0, 1, 3}}, []int{0, 1, 1, 3, 3, 0}, [][]int{{0, 5}, {1, 2}, {3, 4}}, [][]int{{1, 2}, {}, {}}, []int{0, 1, 1, 2, 2, 0}, upTo(6)},
		{"the lesser part by the later node", [][]int{{5, 3}, {2}, {1}, {4}, {3}, {0, 1}}, []int{0, 1, 1, 3, 3, 0}, [][]int{{0, 5}, {1, 2}, {3, 4}}, [][]int{{1, 2}, {}, {}}, []int{0, 1, 1, 2, 2, 0}, upTo(6)},
		{"to itself, and into a circle", [][]int{{0, 1}, {2}, {1, 3}, {3}, {}}, []int{0, 1, 1, 3, 4}, [][]int{{0}, {1, 2}, {3}, {4}}, [][]int{{1}, {2}, {}, {}}, []int{0, 1, 1, 2, 3}, upTo(4)},
		{"into a circle, and out of it", [][]int{{1}, {2}, {3}, {1, 4}, {5}, {}}, []int{0, 1, 1, 1, 4, 5}, [][]int{{0}, {1, 2, 3}, {4}, {5}}, [][]int{{1}, {2}, {3}, {}}, []int{0, 1, 1, 1, 2, 3}, []int{1, 2, 3}},
	}
}

func truths(n int, of []int) []bool {
	l := make([]bool, n)
	for _, a := range of {
		l[a] = true
	}
	return l
}

func TestSamples(t *testing.T) {
	for _, s := range samples() {
		if got := scc.Leads(s.g); !slices.Equal(got, s.leads) {
			t.Errorf("%s: Leads is %v", s.name, got)
		}
		if got := scc.Parts(s.g); !same(got, s.parts) {
			t.Errorf("%s: Parts is %v", s.name, got)
		}
		if got, in := scc.Shrink(s.g); !same(got, s.shrunk) || !slices.Equal(in, s.in) {
			t.Errorf("%s: Shrink is %v, %v", s.name, got, in)
		}
		if got := scc.Loops(s.g); !slices.Equal(got, truths(len(s.g), s.loops)) {
			t.Errorf("%s: Loops is %v", s.name, got)
		}
	}
}

// checkSame tells whether two graphs of as many nodes have the same parts.
func checkSame(t *testing.T, a, b [][]int) {
	t.Helper()
	if !slices.Equal(scc.Leads(a), scc.Leads(b)) || !same(scc.Parts(a), scc.Parts(b)) || !slices.Equal(scc.Loops(a), scc.Loops(b)) {
		t.Fatalf("of %v and of %v is not the same told", a, b)
	}
	_, inA := scc.Shrink(a)
	_, inB := scc.Shrink(b)
	if !slices.Equal(inA, inB) {
		t.Fatalf("of %v and of %v the nodes are not in the same parts", a, b)
	}
}

// checkTwice tells whether what is shrunk stays as it is, each node a part, without circles.
func checkTwice(t *testing.T, g [][]int) {
	t.Helper()
	s, _ := scc.Shrink(g)
	again, in := scc.Shrink(s)
	if !same(again, s) || !slices.Equal(in, upTo(len(s))) || !slices.Equal(scc.Leads(s), upTo(len(s))) {
		t.Fatalf("shrunk of %v is %v, and of that %v, %v", g, s, again, in)
	}
	if slices.Contains(scc.Loops(s), true) {
		t.Fatalf("shrunk of %v is %v, with a circle", g, s)
	}
	for p, l := range scc.Parts(s) {
		if !slices.Equal(l, []int{p}) {
			t.Fatalf("shrunk of %v is %v, in which %v is a part", g, s, l)
		}
	}
}

func TestSamplesTurned(t *testing.T) {
	for _, s := range samples() {
		turned := graph.Turn(s.g)
		checkSame(t, s.g, turned)
		if got, _ := scc.Shrink(turned); !same(got, graph.Turn(s.shrunk)) {
			t.Errorf("%s: Shrink of it turned around is %v", s.name, got)
		}
	}
}

func TestSamplesTwice(t *testing.T) {
	for _, s := range samples() {
		checkTwice(t, s.g)
	}
}

func TestLongChains(t *testing.T) {
	for _, n := range []int{1, 2, 65, 300, 700, 100000} {
		for _, g := range [][][]int{chain(n), graph.Turn(chain(n))} {
			if !slices.Equal(scc.Leads(g), upTo(n)) || slices.Contains(scc.Loops(g), true) {
				t.Errorf("a chain of %d has circles", n)
			}
			s, in := scc.Shrink(g)
			if !same(s, g) || !slices.Equal(in, upTo(n)) {
				t.Errorf("Shrink of a chain of %d is not the chain", n)
			}
			for p, l := range scc.Parts(g) {
				if !slices.Equal(l, []int{p}) {
					t.Fatalf("%v is a part of a chain of %d", l, n)
				}
			}
		}
	}
}

func TestLongCircles(t *testing.T) {
	for _, n := range []int{1, 2, 65, 300, 700, 100000} {
		for _, g := range [][][]int{circle(n), graph.Turn(circle(n))} {
			if !slices.Equal(scc.Leads(g), make([]int, n)) || slices.Contains(scc.Loops(g), false) {
				t.Errorf("a circle of %d is not one part", n)
			}
			s, in := scc.Shrink(g)
			if !same(s, [][]int{{}}) || !slices.Equal(in, make([]int, n)) {
				t.Errorf("Shrink of a circle of %d is not one node", n)
			}
			if !same(scc.Parts(g), [][]int{upTo(n)}) {
				t.Errorf("Parts of a circle of %d is not all of it", n)
			}
		}
	}
}

// TestRowsOfCircles: many circles, one behind the other, and then with a way back from the last one, or from the middle.
func TestRowsOfCircles(t *testing.T) {
	const n, of = 120, 5
	g := make([][]int, n*of)
	var leads, in []int
	row := make([][]int, n)
	for a := range g {
		first := a / of * of
		g[a] = []int{first + (a+1)%of, a + of, a + of}
		leads, in = append(leads, first), append(in, a/of)
		if a/of < n-1 {
			row[a/of] = []int{a/of + 1}
		}
	}
	if !slices.Equal(scc.Leads(g), leads) || slices.Contains(scc.Loops(g), false) {
		t.Error("Leads of a row of circles is not the first of each")
	}
	if got, where := scc.Shrink(g); !same(got, row) || !slices.Equal(where, in) {
		t.Error("Shrink of a row of circles is not a chain")
	}
	back := graph.With(g, len(g)-1, 0)
	if got := scc.Parts(back); !same(got, [][]int{upTo(n * of)}) {
		t.Error("a row of circles with a way back is not one part")
	}
	half := graph.With(g, n/2*of, 0)
	if got := scc.Leads(half); !slices.Equal(got, append(make([]int, (n/2+1)*of), leads[(n/2+1)*of:]...)) {
		t.Error("the first half of a row of circles, with a way back, is not one part")
	}
}

// TestWideOnes: each of some hundreds of nodes followed by all, or by all that are greater.
func TestWideOnes(t *testing.T) {
	const n = 400
	g := slices.Repeat([][]int{upTo(n)}, n)
	if !same(scc.Parts(g), [][]int{upTo(n)}) || slices.Contains(scc.Loops(g), false) {
		t.Error("each after each is not one part")
	}
	for a := range g {
		g[a] = upTo(n)[a+1:]
	}
	if got, in := scc.Shrink(g); !same(got, g) || !slices.Equal(in, upTo(n)) || slices.Contains(scc.Loops(g), true) {
		t.Error("all greater ones after each are not each its own part")
	}
}

// What follows is the chapter's words, told apart from the calls.

// ways tells of each two nodes whether there is a way of one step at least.
func ways(g [][]int) [][]bool {
	w := make([][]bool, len(g))
	for a := range g {
		w[a] = make([]bool, len(g))
		for b := range g {
			w[a][b] = slices.Contains(g[a], b)
		}
	}
	for over := range w {
		for a := range w {
			for b := range w {
				w[a][b] = w[a][b] || w[a][over] && w[over][b]
			}
		}
	}
	return w
}

// told is what the chapter's words tell of a graph.
type told struct {
	leads, in     []int
	parts, shrunk [][]int
	loops         []bool
}

func words(g [][]int) told {
	w := ways(g)
	var x told
	for a := range g {
		lead := 0
		for lead != a && !(w[a][lead] && w[lead][a]) {
			lead++
		}
		x.leads = append(x.leads, lead)
		x.loops = append(x.loops, w[a][a])
	}
	for lead := range g {
		var part []int
		for a := range g {
			if x.leads[a] == lead {
				part = append(part, a)
			}
		}
		if part != nil {
			x.parts = append(x.parts, part)
		}
	}
	for a := range g {
		is := func(part []int) bool { return slices.Contains(part, a) }
		x.in = append(x.in, slices.IndexFunc(x.parts, is))
	}
	x.shrunk = make([][]int, len(x.parts))
	for p, from := range x.parts {
		for q, to := range x.parts {
			if p != q && leadsInto(g, from, to) {
				x.shrunk[p] = append(x.shrunk[p], q)
			}
		}
	}
	return x
}

func leadsInto(g [][]int, from, to []int) bool {
	for _, a := range from {
		for _, b := range to {
			if slices.Contains(g[a], b) {
				return true
			}
		}
	}
	return false
}

func check(t *testing.T, g [][]int) {
	t.Helper()
	want := words(g)
	if got := scc.Leads(g); !slices.Equal(got, want.leads) {
		t.Fatalf("Leads of %v is %v, not %v", g, got, want.leads)
	}
	if got := scc.Parts(g); !same(got, want.parts) {
		t.Fatalf("Parts of %v is %v, not %v", g, got, want.parts)
	}
	if got, in := scc.Shrink(g); !same(got, want.shrunk) || !slices.Equal(in, want.in) {
		t.Fatalf("Shrink of %v is %v, %v, not %v, %v", g, got, in, want.shrunk, want.in)
	}
	if got := scc.Loops(g); !slices.Equal(got, want.loops) {
		t.Fatalf("Loops of %v is %v, not %v", g, got, want.loops)
	}
}

// small is the graph of n nodes that a number tells, an edge a digit.
func small(n, number int) [][]int {
	g := make([][]int, n)
	for a := range n {
		for b := range n {
			if number>>(a*n+b)&1 == 1 {
				g[a] = append(g[a], b)
			}
		}
	}
	return g
}

func TestSmallGraphs(t *testing.T) {
	for n := range 5 {
		for number := range 1 << (n * n) {
			check(t, small(n, number))
		}
	}
}

type numbersOf struct{ seed uint32 }

func (r *numbersOf) below(n int) int {
	r.seed = r.seed*1664525 + 1013904223
	return int(r.seed>>8) % n
}

// rolled is a graph of up to most nodes, each with fewer followers than those, in which followers stand twice, fall, and are no nodes.
func rolled(r *numbersOf, most, followers int) [][]int {
	g := make([][]int, r.below(most+1))
	for a := range g {
		for range r.below(followers) {
			switch r.below(8) {
			case 0:
				g[a] = append(g[a], wild[r.below(len(wild))])
			case 1:
				g[a] = append(g[a], len(g)+r.below(3))
			default:
				g[a] = append(g[a], r.below(len(g)))
			}
		}
	}
	return g
}

func TestRolledGraphs(t *testing.T) {
	r := &numbersOf{20}
	for k := range 4000 {
		check(t, rolled(r, 14, 2+k%5))
	}
	for k := range 8 {
		check(t, rolled(r, 90, 3+k%2))
	}
}

func TestRolledTurned(t *testing.T) {
	r := &numbersOf{21}
	for k := range 800 {
		g := rolled(r, 14, 2+k%5)
		checkSame(t, g, graph.Turn(g))
		checkSame(t, g, graph.Clean(g))
		checkTwice(t, g)
		s, _ := scc.Shrink(g)
		if got, _ := scc.Shrink(graph.Turn(g)); !same(got, graph.Turn(s)) {
			t.Fatalf("Shrink of %v turned around is %v", g, got)
		}
		if got, _ := scc.Shrink(graph.Clean(g)); !same(got, s) {
			t.Fatalf("Shrink of %v cleaned is %v", g, got)
		}
	}
}

// TestOtherNumbers: as nodes are numbered otherwise, the parts are the same ones.
func TestOtherNumbers(t *testing.T) {
	r := &numbersOf{22}
	for range 500 {
		g := graph.Clean(rolled(r, 14, 4))
		to := upTo(len(g))
		for k := range to {
			with := r.below(k + 1)
			to[k], to[with] = to[with], to[k]
		}
		h := make([][]int, len(g))
		for a, l := range g {
			for _, b := range l {
				h[to[a]] = append(h[to[a]], to[b])
			}
		}
		var want [][]int
		for _, part := range scc.Parts(g) {
			var l []int
			for _, a := range part {
				l = append(l, to[a])
			}
			slices.Sort(l)
			want = append(want, l)
		}
		slices.SortFunc(want, func(a, b []int) int { return a[0] - b[0] })
		if got := scc.Parts(h); !same(got, want) {
			t.Fatalf("Parts of %v is %v, not %v", h, got, want)
		}
	}
}

// What follows is about what is handed in, and what answers share.

// roomy is l with room behind its end, in which something stands.
func roomy(l []int) []int { return append(slices.Clone(l), 0, 1, 2, -5)[:len(l)] }

// wide is l with what stands behind its end.
func wide(l []int) []int { return slices.Clone(l[:cap(l)]) }

func roomyGraph(g [][]int) [][]int {
	l := make([][]int, len(g), len(g)+2)
	for a := range g {
		l[a] = roomy(g[a])
	}
	copy(l[len(g):cap(l)], [][]int{{0, 7}, {1}})
	return l
}

func wideGraph(g [][]int) [][]int {
	var l [][]int
	for _, row := range g[:cap(g)] {
		l = append(l, wide(row))
	}
	return l
}

func graphs() [][][]int {
	var l [][][]int
	for _, s := range samples() {
		l = append(l, s.g)
	}
	r := &numbersOf{23}
	for range 200 {
		l = append(l, rolled(r, 8, 5))
	}
	return l
}

func TestGraphStays(t *testing.T) {
	for _, g := range graphs() {
		in := roomyGraph(g)
		was := wideGraph(in)
		scc.Leads(in)
		scc.Parts(in)
		scc.Shrink(in)
		scc.Loops(in)
		if !same(wideGraph(in), was) {
			t.Fatalf("%v became %v", was, wideGraph(in))
		}
	}
}

// spoil writes over a list, and over all the room behind it.
func spoil(l []int) {
	l = l[:cap(l)]
	for k := range l {
		l[k] = 99
	}
}

func copied(g [][]int) [][]int {
	c := make([][]int, len(g))
	for a, l := range g {
		c[a] = slices.Clone(l)
	}
	return c
}

// checkAlone tells whether the lists that are told of a graph hang on that graph, or on each other.
func checkAlone(t *testing.T, name string, g [][]int, tell func(g [][]int) [][]int) {
	t.Helper()
	in := roomyGraph(g)
	got := tell(in)
	want := copied(got)
	for _, l := range in {
		spoil(l)
	}
	clear(in)
	if !same(got, want) {
		t.Fatalf("%s of %v shares a list with it", name, g)
	}
	in = roomyGraph(g)
	was := wideGraph(in)
	got = tell(in)
	for a := range got {
		spoil(got[a])
		want[a] = got[a]
		if !same(got, want) {
			t.Fatalf("%s of %v: list %d is shared", name, g, a)
		}
	}
	clear(got[:cap(got)])
	if !same(wideGraph(in), was) {
		t.Fatalf("%s of %v shares a list with it", name, g)
	}
}

func TestSharesNothing(t *testing.T) {
	for _, g := range graphs() {
		checkAlone(t, "Parts", g, scc.Parts)
		checkAlone(t, "Leads", g, func(g [][]int) [][]int { return [][]int{scc.Leads(g), scc.Leads(g)} })
		checkAlone(t, "Shrink", g, func(g [][]int) [][]int {
			s, in := scc.Shrink(g)
			return append(s, in)
		})
	}
}

// TestAsked tells that nothing is kept from one call to the next.
func TestAsked(t *testing.T) {
	l := graphs()
	var first [][]int
	for _, g := range l {
		first = append(first, scc.Leads(g))
	}
	slices.Reverse(l)
	slices.Reverse(first)
	for k, g := range l {
		if got := scc.Leads(g); !slices.Equal(got, first[k]) {
			t.Fatalf("Leads of %v is %v, then %v", g, first[k], got)
		}
	}
}
