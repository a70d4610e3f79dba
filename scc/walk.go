package scc

import "slices"

const unknown = -1

// visit is a node on the way down.
type visit struct {
	node int
	left []int // what follows it, and was not tried from it
	low  int   // the least height on open to which it, or what was gone to from it, leads
}

// walk is the finding of parts: a node is gone to once, and it is open till its part is found.
type walk struct {
	g      [][]int
	way    stack[visit]
	open   stack[int]
	height []int // of each node, where on open it was put
	lead   []int // of each node, its part's, once that is found
}

func newWalk(g [][]int) *walk {
	none := slices.Repeat([]int{unknown}, len(g))
	return &walk{g: g, height: none, lead: slices.Clone(none)}
}

// from finds the parts of all nodes that there is a way to, and that were not gone to.
func (w *walk) from(a int) {
	// The way down is a stack, so a long one needs no deep calls.
	w.enter(a)
	for !w.way.empty() {
		if v := w.way.top(); len(v.left) > 0 {
			w.step(v)
		} else {
			w.leave()
		}
	}
}

func (w *walk) enter(a int) {
	w.height[a] = w.open.height()
	w.open.put(a)
	w.way.put(visit{a, w.g[a], w.height[a]})
}

// step tries what follows next.
func (w *walk) step(v *visit) {
	b := v.left[0]
	v.left = v.left[1:]
	if w.height[b] == unknown {
		w.enter(b)
	} else if w.lead[b] == unknown {
		v.low = min(v.low, w.height[b])
	}
}

// leave goes back up from a node behind all that follow it.
func (w *walk) leave() {
	v := w.way.take()
	if v.low == w.height[v.node] {
		w.close(v.low)
		return
	}
	// What leads below itself on open was not gone to first, so the way goes on above it.
	up := w.way.top()
	up.low = min(up.low, v.low)
}

// close tells the lead of the part that lies on open from a height on.
func (w *walk) close(height int) {
	part := w.open.takeFrom(height)
	lead := slices.Min(part)
	for _, a := range part {
		w.lead[a] = lead
	}
}
