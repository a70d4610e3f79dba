package edit_test

import (
	"math"
	"reflect"
	"slices"
	"testing"

	"bywash/api"
	"bywash/edit"
	"bywash/instr"
	"bywash/prog"
)

// made is three functions: one with a block between that is not Live, one that it calls, one without variables.
func made() api.Program {
	return api.Program{Funs: []api.Fun{
		{Arity: 1, Vars: 3, Blocks: []api.Block{
			{Live: true, Succ: []int{1, 3}, Code: []api.Instr{
				{Id: 4, Kind: api.Const, Dst: 1, C: -7},
				{Id: 0, Kind: api.Call, Dst: 2, F: 1, N: 2, Args: [3]int{0, 1}},
			}},
			{Live: true, Succ: []int{1, 3}},
			{},
			{Live: true, Code: []api.Instr{{Id: 2, Kind: api.Ret, A: 2}}},
		}},
		{Arity: 2, Vars: 2, Blocks: []api.Block{{Live: true, Code: []api.Instr{{Id: 1, Kind: api.Ret, A: 1}}}}},
		{Arity: 0, Vars: 0, Blocks: []api.Block{{Live: true, Succ: []int{0}}}},
	}}
}

func changed(change func(p *api.Program)) api.Program {
	p := made()
	change(&p)
	return p
}

// withFuns is made, with functions of one block behind its own, n in all.
func withFuns(n int) api.Program {
	return changed(func(p *api.Program) {
		for len(p.Funs) < n {
			p.Funs = append(p.Funs, api.Fun{Blocks: []api.Block{{Live: true}}})
		}
	})
}

// withBlocks is made, with n blocks of the first function, all Live but those of gaps.
func withBlocks(n int, gaps ...int) api.Program {
	return changed(func(p *api.Program) {
		fun := &p.Funs[0]
		for b := range n {
			if b == len(fun.Blocks) {
				fun.Blocks = append(fun.Blocks, api.Block{})
			}
			fun.Blocks[b].Live = !slices.Contains(gaps, b)
		}
	})
}

// withCode is made, with n instructions in the first block of the first function.
func withCode(n int) api.Program {
	return changed(func(p *api.Program) { fill(&p.Funs[0].Blocks[0], n, 10) })
}

func fill(b *api.Block, n, id int) {
	for k := range n - len(b.Code) {
		b.Code = append(b.Code, api.Instr{Id: id + k, Kind: api.Input})
	}
}

// withIds is one function whose blocks have n instructions, and behind them a block that has none.
func withIds(n int) api.Program {
	fun := api.Fun{Vars: 1, Blocks: []api.Block{{Live: true}}}
	for id := range n {
		last := &fun.Blocks[len(fun.Blocks)-1]
		last.Code = append(last.Code, api.Instr{Id: id, Kind: api.Input})
		if len(last.Code) == api.MaxCode {
			fun.Blocks = append(fun.Blocks, api.Block{Live: true})
		}
	}
	return api.Program{Funs: []api.Fun{fun}}
}

// notSane are programs that may not be.
func notSane() []api.Program {
	return []api.Program{
		{Funs: []api.Fun{{}}},
		{Funs: make([]api.Fun, 7)},
		withFuns(7),
		withBlocks(13),
		withCode(17),
		changed(func(p *api.Program) { p.Funs[0].Vars = 9 }),
		changed(func(p *api.Program) { p.Funs[2].Arity = -1 }),
		changed(func(p *api.Program) { p.Funs[0].Blocks[0].Succ = []int{1, 2, 3} }),
		changed(func(p *api.Program) { p.Funs[0].Blocks[1].Succ = []int{3, 1} }),
		changed(func(p *api.Program) { p.Funs[1].Blocks[0].Code[0].Id = 2 }),
		changed(func(p *api.Program) { p.Funs[0].Blocks[0].Code[1].F = 3 }),
		changed(func(p *api.Program) { p.Funs[1].Blocks[0].Code[0].Kind = 10 }),
		changed(func(p *api.Program) { p.Funs[1].Blocks = nil }),
	}
}

// copied is p in memory of its own.
func copied(p api.Program) api.Program {
	q := api.Program{Funs: slices.Clone(p.Funs)}
	for f := range q.Funs {
		q.Funs[f].Blocks = slices.Clone(q.Funs[f].Blocks)
		for b := range q.Funs[f].Blocks {
			k := &q.Funs[f].Blocks[b]
			k.Code, k.Succ = slices.Clone(k.Code), slices.Clone(k.Succ)
		}
	}
	return q
}

var (
	call = api.Instr{Kind: api.Call, Dst: 1, F: 1, N: 2, Args: [3]int{0, 2}}
	use  = api.Instr{Kind: api.Use, A: 2}
	read = api.Instr{Kind: api.Input}
)

// with is an instruction, but for what is done to it.
func with(i api.Instr, change func(i *api.Instr)) api.Instr {
	change(&i)
	return i
}

// inserted is an Insert at the beginning of the first block of made.
func inserted(i api.Instr) api.Edit { return api.Edit{Op: api.Insert, I: i} }

type sample struct {
	name string
	p    api.Program
	e    api.Edit
	want api.Errno
}

func check(t *testing.T, l []sample) {
	t.Helper()
	for _, x := range l {
		if got := edit.Check(x.p, x.e); got != x.want {
			t.Errorf("%s: Check tells %d, not %d", x.name, got, x.want)
		}
	}
}

// P7.1: each kind of edit, by itself.

func TestOp(t *testing.T) {
	for _, op := range []int{math.MinInt, -8, -1, 8, 9, 15, 1 << 32, math.MaxInt} {
		e := api.Edit{Op: op, B: 1, To: 3, I: read}
		check(t, []sample{{"no Op", made(), e, api.ErrForm}, {"no Op, no program", notSane()[0], e, api.ErrProgram}})
	}
}

func TestAddFun(t *testing.T) {
	add := func(b, to int) api.Edit { return api.Edit{Op: api.AddFun, B: b, To: to} }
	check(t, []sample{
		{"to no function", api.Program{}, add(0, 0), api.OK},
		{"B 0, To 0", made(), add(0, 0), api.OK},
		{"B 0, To MaxVars", made(), add(0, 6), api.OK},
		{"B 0, To above MaxVars", made(), add(0, 7), api.ErrForm},
		{"B 0, To below 0", made(), add(0, -1), api.ErrForm},
		{"B 0, the greatest To", made(), add(0, math.MaxInt), api.ErrForm},
		{"B 0, the least To", made(), add(0, math.MinInt), api.ErrForm},
		{"B below 0", made(), add(-1, 0), api.ErrForm},
		{"B and To below 0", made(), add(-1, -1), api.ErrForm},
		{"the least B", made(), add(math.MinInt, 6), api.ErrForm},
		{"B 2, To one below", made(), add(2, 1), api.ErrForm},
		{"B 2, To 2", made(), add(2, 2), api.OK},
		{"B MaxArgs, To one below", made(), add(3, 2), api.ErrForm},
		{"B MaxArgs, To the same", made(), add(3, 3), api.OK},
		{"B MaxArgs, To MaxVars", made(), add(3, 6), api.OK},
		{"B MaxArgs, To above MaxVars", made(), add(3, 7), api.ErrForm},
		{"B above MaxArgs", made(), add(4, 6), api.ErrForm},
		{"B above MaxArgs, To the same", made(), add(4, 4), api.ErrForm},
		{"the greatest B", made(), add(math.MaxInt, math.MaxInt), api.ErrForm},
		{"one below MaxFuns functions", withFuns(5), add(1, 2), api.OK},
		{"MaxFuns functions", withFuns(6), add(1, 2), api.ErrFull},
		{"MaxFuns functions, B above", withFuns(6), add(4, 6), api.ErrForm},
		{"MaxFuns functions, To below B", withFuns(6), add(2, 1), api.ErrForm},
	})
}

func TestFun(t *testing.T) {
	for op := api.AddBlock; op <= api.Delete; op++ {
		for _, f := range []int{math.MinInt, -1, 3, 4, 6, math.MaxInt} {
			check(t, []sample{
				{edit.Name(op), made(), api.Edit{Op: op, F: f, B: 1, To: 3, I: read}, api.ErrFun},
				{edit.Name(op) + " of a block that is none", made(), api.Edit{Op: op, F: f, B: 99, To: 99, Pos: 99}, api.ErrFun},
				{edit.Name(op) + " of no functions", api.Program{}, api.Edit{Op: op, F: max(f, 0)}, api.ErrFun},
			})
		}
	}
}

func TestAddBlock(t *testing.T) {
	add := func(f int) api.Edit { return api.Edit{Op: api.AddBlock, F: f} }
	check(t, []sample{
		{"a block between is not Live", made(), add(0), api.OK},
		{"one block", made(), add(1), api.OK},
		{"the last function", made(), add(2), api.OK},
		{"one below MaxBlocks", withBlocks(11), add(0), api.OK},
		{"all blocks Live", withBlocks(12), add(0), api.ErrFull},
		{"all blocks of another one Live", withBlocks(12), add(1), api.OK},
		{"MaxBlocks, but one is not Live", withBlocks(12, 2), add(0), api.OK},
		{"MaxBlocks, but the one ahead of the last is not Live", withBlocks(12, 10), add(0), api.OK},
		{"no room for functions and Ids", withFuns(6), add(5), api.OK},
	})
}

// noBlocks are numbers of no block of the first function of made: not Live, below 0, just beyond the last one, far.
var noBlocks = []int{2, -1, 4, 12, math.MinInt, math.MaxInt}

func TestDelBlock(t *testing.T) {
	del := func(f, b int) api.Edit { return api.Edit{Op: api.DelBlock, F: f, B: b} }
	check(t, []sample{
		{"between", made(), del(0, 1), api.OK},
		{"the last one", made(), del(0, 3), api.OK},
		{"the first one", made(), del(0, 0), api.ErrEntry},
		{"the only one", made(), del(1, 0), api.ErrEntry},
		{"one that another function has", made(), del(1, 1), api.ErrBlock},
	})
	for _, b := range noBlocks {
		check(t, []sample{{"no block", made(), del(0, b), api.ErrBlock}})
	}
}

func TestEdges(t *testing.T) {
	add := func(f, b, to int) api.Edit { return api.Edit{Op: api.AddEdge, F: f, B: b, To: to} }
	del := func(f, b, to int) api.Edit { return api.Edit{Op: api.DelEdge, F: f, B: b, To: to} }
	check(t, []sample{
		{"from a block to itself, not there", made(), add(0, 0, 0), api.OK},
		{"from a block to itself, there", made(), add(0, 1, 1), api.ErrEdge},
		{"from the only one to itself, not there", made(), add(1, 0, 0), api.OK},
		{"from the only one to itself, there", made(), add(2, 0, 0), api.ErrEdge},
		{"the other way alone is there", made(), add(0, 3, 0), api.OK},
		{"there", made(), add(0, 0, 1), api.ErrEdge},
		{"there, the last one", made(), add(0, 0, 3), api.ErrEdge},
		{"without one from a block to itself", made(), del(0, 1, 1), api.OK},
		{"without one to itself that is not there", made(), del(0, 0, 0), api.ErrEdge},
		{"without one of the last function", made(), del(2, 0, 0), api.OK},
		{"without one that is there", made(), del(0, 0, 1), api.OK},
		{"without the last one that is there", made(), del(0, 1, 3), api.OK},
		{"without one whose other way is there", made(), del(0, 3, 1), api.ErrEdge},
		{"without one, of a function that has none", made(), del(1, 0, 0), api.ErrEdge},
	})
	for _, b := range noBlocks {
		check(t, []sample{
			{"to no block", made(), add(0, 0, b), api.ErrBlock},
			{"from no block", made(), add(0, b, 0), api.ErrBlock},
			{"from no block to itself", made(), add(0, b, b), api.ErrBlock},
			{"without one to no block", made(), del(0, 0, b), api.ErrBlock},
			{"without one from no block", made(), del(0, b, 1), api.ErrBlock},
		})
	}
}

// The chapter's example: an edge from a block to itself may be, once.
func TestExample(t *testing.T) {
	loop := api.Edit{Op: api.AddEdge}
	p := api.Program{Funs: []api.Fun{{Blocks: []api.Block{{Live: true}}}}}
	check(t, []sample{{"once", p, loop, api.OK}})
	p.Funs[0].Blocks[0].Succ = []int{0}
	check(t, []sample{{"twice", p, loop, api.ErrEdge}})
}

func TestRewire(t *testing.T) {
	to := func(b, to, other int) api.Edit { return api.Edit{Op: api.Rewire, B: b, To: to, Other: other} }
	check(t, []sample{
		{"to where none goes", made(), to(0, 1, 0), api.OK},
		{"the last one to where none goes", made(), to(1, 3, 0), api.OK},
		{"to where the edge goes", made(), to(0, 1, 1), api.OK},
		{"from a block to itself, to where it goes", made(), to(1, 1, 1), api.OK},
		{"to where another one goes", made(), to(0, 1, 3), api.ErrEdge},
		{"the last one to where another one goes", made(), to(0, 3, 1), api.ErrEdge},
		{"from a block to itself, to where another one goes", made(), to(1, 1, 3), api.ErrEdge},
		{"one that is not there", made(), to(3, 1, 0), api.ErrEdge},
		{"one that is not there, to where it would go", made(), to(0, 0, 0), api.ErrEdge},
		{"one that is not there, to where one goes", made(), to(0, 0, 1), api.ErrEdge},
	})
	second := changed(func(p *api.Program) { p.Funs[0], p.Funs[2] = p.Funs[2], p.Funs[0] })
	check(t, []sample{
		{"of another function, to where none goes", second, api.Edit{Op: api.Rewire, F: 2, To: 1, Other: 0}, api.OK},
		{"of another function, to where one goes", second, api.Edit{Op: api.Rewire, F: 2, To: 1, Other: 3}, api.ErrEdge},
	})
	for _, b := range noBlocks {
		check(t, []sample{
			{"from no block", made(), to(b, 1, 0), api.ErrBlock},
			{"of an edge to no block", made(), to(0, b, 0), api.ErrBlock},
			{"to no block", made(), to(0, 1, b), api.ErrBlock},
			{"an edge that is not there, to no block", made(), to(3, 1, b), api.ErrBlock},
			{"from no block to where it goes", made(), to(b, b, b), api.ErrBlock},
			{"of an edge to no block, to where it goes", made(), to(0, b, b), api.ErrBlock},
		})
	}
}

func TestInsertPlace(t *testing.T) {
	at := func(b, pos int) api.Edit { return api.Edit{Op: api.Insert, B: b, Pos: pos, I: use} }
	check(t, []sample{
		{"ahead of all", made(), at(0, 0), api.OK},
		{"between", made(), at(0, 1), api.OK},
		{"behind all", made(), at(0, 2), api.OK},
		{"beyond", made(), at(0, 3), api.ErrPlace},
		{"below 0", made(), at(0, -1), api.ErrPlace},
		{"far", made(), at(0, math.MaxInt), api.ErrPlace},
		{"far below", made(), at(0, math.MinInt), api.ErrPlace},
		{"where there is none", made(), at(1, 0), api.OK},
		{"beyond, where there is none", made(), at(1, 1), api.ErrPlace},
		{"below 0, where there is none", made(), at(1, -1), api.ErrPlace},
		{"behind one", made(), at(3, 1), api.OK},
		{"beyond one", made(), at(3, 2), api.ErrPlace},
	})
	for _, b := range noBlocks {
		check(t, []sample{{"no block", made(), at(b, 0), api.ErrBlock}, {"no block and no place", made(), at(b, 5), api.ErrBlock}})
	}
}

func TestInsertForm(t *testing.T) {
	for id := range api.MaxInstrs + 2 {
		want := api.ErrForm
		if id == 0 {
			want = api.OK
		}
		check(t, []sample{{"an Id", made(), inserted(with(use, func(i *api.Instr) { i.Id = id })), want}})
	}
	for _, c := range []int{api.MinConst, 0, api.MaxConst} {
		check(t, []sample{{"a constant", made(), inserted(api.Instr{Kind: api.Const, Dst: 2, C: c}), api.OK}})
	}
	for _, i := range []api.Instr{
		{Id: -1, Kind: api.Use}, {Id: 96, Kind: api.Use}, {Kind: -1}, {Kind: 10}, {Kind: math.MaxInt}, {Kind: math.MinInt},
		{Kind: api.Use, Dst: 1}, {Kind: api.Use, B: 1}, {Kind: api.Use, N: 1}, {Kind: api.Use, A: -1}, {Kind: api.Input, Dst: -1},
		{Kind: api.Const, C: api.MaxConst + 1}, {Kind: api.Const, C: api.MinConst - 1}, {Kind: api.Const, A: 1},
		{Kind: api.Call, F: -1, N: 1}, {Kind: api.Call, F: 1, N: 4}, {Kind: api.Call, F: 1, N: -1},
		{Kind: api.Call, F: 1, N: 2, Args: [3]int{0, 0, 1}}, {Kind: api.Call, F: 1, N: 2, Args: [3]int{0, -1}}, {Kind: api.Ret, Args: [3]int{1}},
	} {
		check(t, []sample{{"an instruction that may not be", made(), inserted(i), api.ErrForm}})
	}
}

func TestInsertVar(t *testing.T) {
	for kind := range api.Kinds {
		for f, vars := range []int{3, 2, 0} {
			for v := range 9 {
				want := api.OK
				if v >= vars {
					want = api.ErrVar
				}
				for _, i := range onlyOf(kind, v) {
					check(t, []sample{{instr.Name(kind), made(), api.Edit{Op: api.Insert, F: f, I: i}, want}})
				}
			}
		}
	}
}

// onlyOf are the instructions of a kind that have v at one place, and 0 at the others; a Call is of the second function.
func onlyOf(kind, v int) []api.Instr {
	set, a, b := api.Instr{Kind: kind, Dst: v}, api.Instr{Kind: kind, A: v}, api.Instr{Kind: kind, B: v}
	switch kind {
	case api.Const, api.Input:
		return []api.Instr{set}
	case api.Copy, api.Neg:
		return []api.Instr{set, a}
	case api.Use, api.Ret:
		return []api.Instr{a}
	case api.Call:
		set.F, set.N = 1, 2
		return []api.Instr{set, {Kind: kind, F: 1, N: 2, Args: [3]int{v, 0}}, {Kind: kind, F: 1, N: 2, Args: [3]int{0, v}}}
	}
	return []api.Instr{set, a, b}
}

func TestInsertCall(t *testing.T) {
	of := func(f, n int) api.Edit { return inserted(api.Instr{Kind: api.Call, Dst: 2, F: f, N: n}) }
	check(t, []sample{
		{"of another one", made(), inserted(call), api.OK},
		{"of itself", made(), of(0, 1), api.OK},
		{"of one without parameters", made(), of(2, 0), api.OK},
		{"of just beyond the last function", made(), of(3, 0), api.ErrFun},
		{"of just beyond it, with arguments", made(), of(3, 3), api.ErrFun},
		{"of far beyond it", made(), of(math.MaxInt, 1), api.ErrFun},
		{"of itself, without arguments", made(), of(0, 0), api.ErrArity},
		{"of itself, with one more", made(), of(0, 2), api.ErrArity},
		{"of another one, with one less", made(), of(1, 1), api.ErrArity},
		{"of another one, with one more", made(), of(1, 3), api.ErrArity},
		{"of one without parameters, with one", made(), of(2, 1), api.ErrArity},
	})
}

func TestInsertFull(t *testing.T) {
	at := func(b, pos int) api.Edit { return api.Edit{Op: api.Insert, B: b, Pos: pos, I: read} }
	check(t, []sample{
		{"one below MaxCode", withCode(15), at(0, 15), api.OK},
		{"MaxCode, ahead of all", withCode(16), at(0, 0), api.ErrFull},
		{"MaxCode, behind all", withCode(16), at(0, 16), api.ErrFull},
		{"MaxCode, beyond", withCode(16), at(0, 17), api.ErrPlace},
		{"MaxCode in another block", withCode(16), at(1, 0), api.OK},
		{"no Id taken", withIds(0), at(0, 0), api.OK},
		{"one Id left", withIds(95), at(5, 0), api.OK},
		{"all Ids taken", withIds(96), at(6, 0), api.ErrFull},
		{"all Ids taken, beyond", withIds(96), at(6, 1), api.ErrPlace},
		{"all Ids taken, no variable", withIds(96), api.Edit{Op: api.Insert, B: 6, I: use}, api.ErrVar},
	})
}

func TestDelete(t *testing.T) {
	at := func(b, pos int) api.Edit { return api.Edit{Op: api.Delete, B: b, Pos: pos} }
	check(t, []sample{
		{"the first one", made(), at(0, 0), api.OK},
		{"the last one", made(), at(0, 1), api.OK},
		{"just beyond the last one", made(), at(0, 2), api.ErrPlace},
		{"below 0", made(), at(0, -1), api.ErrPlace},
		{"far", made(), at(0, math.MaxInt), api.ErrPlace},
		{"far below", made(), at(0, math.MinInt), api.ErrPlace},
		{"where there is none", made(), at(1, 0), api.ErrPlace},
		{"the only one", made(), at(3, 0), api.OK},
		{"of a block with MaxCode", withCode(16), at(0, 15), api.OK},
		{"all Ids taken", withIds(96), at(0, 0), api.OK},
	})
	for _, b := range noBlocks {
		check(t, []sample{{"no block", made(), at(b, 0), api.ErrBlock}, {"no block and no place", made(), at(b, 9), api.ErrBlock}})
	}
}

// P7.1: which of several errors is told first.

// defect is an error, and what brings it about.
type defect struct {
	err   api.Errno
	spoil func(p *api.Program, e *api.Edit)
}

func part(err api.Errno, spoil func(e *api.Edit)) defect {
	return defect{err, func(p *api.Program, e *api.Edit) { spoil(e) }}
}

// chain is an edit of made that may be, and its defects, in the chapter's order.
type chain struct {
	good    api.Edit
	defects []defect
}

func chains() []chain {
	block := part(api.ErrBlock, func(e *api.Edit) { e.B = 2 })
	to := part(api.ErrBlock, func(e *api.Edit) { e.To = 4 })
	other := part(api.ErrBlock, func(e *api.Edit) { e.Other = -1 })
	place := part(api.ErrPlace, func(e *api.Edit) { e.Pos = 17 })
	fullFuns := defect{api.ErrFull, func(p *api.Program, e *api.Edit) { *p = withFuns(6) }}
	fullBlocks := defect{api.ErrFull, func(p *api.Program, e *api.Edit) { *p = withBlocks(12) }}
	fullCode := defect{api.ErrFull, func(p *api.Program, e *api.Edit) { *p = withCode(16) }}
	return []chain{
		{api.Edit{Op: api.AddFun, B: 1, To: 2}, []defect{part(api.ErrForm, func(e *api.Edit) { e.B = 4 }), part(api.ErrForm, func(e *api.Edit) { e.To = 7 }), fullFuns}},
		{api.Edit{Op: api.AddBlock}, []defect{fullBlocks}},
		{api.Edit{Op: api.DelBlock, B: 1}, []defect{block, part(api.ErrEntry, func(e *api.Edit) { e.B = 0 })}},
		{api.Edit{Op: api.AddEdge, B: 0, To: 0}, []defect{block, to, part(api.ErrEdge, func(e *api.Edit) { e.To = 3 })}},
		{api.Edit{Op: api.DelEdge, B: 0, To: 3}, []defect{block, to, part(api.ErrEdge, func(e *api.Edit) { e.To = 0 })}},
		{api.Edit{Op: api.Rewire, B: 0, To: 1, Other: 0}, []defect{block, to, other,
			part(api.ErrEdge, func(e *api.Edit) { e.To = 0 }), part(api.ErrEdge, func(e *api.Edit) { e.Other = 3 })}},
		{inserted(call), []defect{block, place,
			part(api.ErrForm, func(e *api.Edit) { e.I.Id = 1 }), part(api.ErrForm, func(e *api.Edit) { e.I.B = 1 }), part(api.ErrVar, func(e *api.Edit) { e.I.Args[1] = 3 }),
			part(api.ErrFun, func(e *api.Edit) { e.I.F = 6 }), part(api.ErrArity, func(e *api.Edit) { e.I.N, e.I.Args[2] = 3, 1 }), fullCode}},
		{api.Edit{Op: api.Delete, Pos: 1}, []defect{block, place}},
	}
}

func TestFirstError(t *testing.T) {
	program := defect{api.ErrProgram, func(p *api.Program, e *api.Edit) { p.Funs[2].Arity = 4 }}
	op := part(api.ErrForm, func(e *api.Edit) { e.Op += api.Edits })
	fun := part(api.ErrFun, func(e *api.Edit) { e.F = 6 })
	for _, c := range chains() {
		l := []defect{program, op}
		if c.good.Op != api.AddFun {
			l = append(l, fun)
		}
		l = append(l, c.defects...)
		for set := range 1 << len(l) {
			checkDefects(t, c.good, l, set)
		}
	}
}

// checkDefects: of a set of defects the first one is told. They come about from behind, so that what two of them change is as the first one wants it.
func checkDefects(t *testing.T, e api.Edit, l []defect, set int) {
	p, want, op := made(), api.OK, e.Op
	for k := len(l) - 1; k >= 0; k-- {
		if set>>k&1 == 1 {
			l[k].spoil(&p, &e)
			want = l[k].err
		}
	}
	if got := edit.Check(p, e); got != want {
		t.Errorf("%s with the defects %b: Check tells %d, not %d", edit.Name(op), set, got, want)
	}
}

func TestNotSane(t *testing.T) {
	for k, p := range notSane() {
		for _, c := range chains() {
			for _, e := range []api.Edit{c.good, {Op: c.good.Op, F: -1}, {Op: c.good.Op, F: 1}, {Op: -1}, {Op: 8}} {
				if edit.Check(p, e) != api.ErrProgram || len(edit.Touches(p, e)) != 0 || edit.Same(p, e) {
					t.Error(k, e)
				}
			}
		}
		if e := (api.Edit{Op: api.Rewire, To: 1, Other: 1}); edit.Same(p, e) || edit.Check(p, e) != api.ErrProgram {
			t.Error(k, "Rewire to where the edge goes")
		}
	}
}

// P7.2.

func TestName(t *testing.T) {
	for op, want := range []string{"addfun", "addblock", "delblock", "addedge", "deledge", "rewire", "insert", "delete"} {
		if got := edit.Name(op); got != want {
			t.Error(op, got)
		}
	}
	for _, op := range []int{math.MinInt, -8, -1, 8, 9, 16, 1 << 32, math.MaxInt} {
		if got := edit.Name(op); got != "" {
			t.Error(op, got)
		}
	}
}

// P7.3.

func TestTouches(t *testing.T) {
	for _, x := range []struct {
		p    api.Program
		e    api.Edit
		want []int
	}{
		{api.Program{}, api.Edit{Op: api.AddFun, F: 3}, []int{0}},
		{made(), api.Edit{Op: api.AddFun, F: 1, B: 3, To: 4}, []int{3}},
		{withFuns(5), api.Edit{Op: api.AddFun}, []int{5}},
		{withFuns(6), api.Edit{Op: api.AddFun}, nil},
		{made(), api.Edit{Op: api.AddFun, B: 4, To: 6}, nil},
		{made(), api.Edit{Op: api.AddBlock, F: 2}, []int{2}},
		{made(), api.Edit{Op: api.AddBlock, F: 3}, nil},
		{made(), api.Edit{Op: api.DelBlock, B: 1}, []int{0}},
		{made(), api.Edit{Op: api.DelBlock}, nil},
		{made(), api.Edit{Op: api.AddEdge, F: 1}, []int{1}},
		{made(), api.Edit{Op: api.AddEdge, F: 2}, nil},
		{made(), api.Edit{Op: api.DelEdge, F: 2}, []int{2}},
		{made(), api.Edit{Op: api.Rewire, To: 1, Other: 0}, []int{0}},
		{made(), api.Edit{Op: api.Rewire, F: 2}, []int{2}},
		{made(), inserted(call), []int{0}},
		{made(), api.Edit{Op: api.Insert, F: 1, I: read}, []int{1}},
		{made(), api.Edit{Op: api.Delete, F: 1}, []int{1}},
		{made(), api.Edit{Op: api.Delete, F: 2}, nil},
		{made(), api.Edit{Op: 8}, nil},
	} {
		if got := edit.Touches(x.p, x.e); !slices.Equal(got, x.want) {
			t.Error(x.e, got)
		}
	}
}

func TestSame(t *testing.T) {
	for _, x := range []struct {
		e    api.Edit
		want bool
	}{
		{api.Edit{Op: api.Rewire, B: 0, To: 1, Other: 1}, true},
		{api.Edit{Op: api.Rewire, B: 1, To: 1, Other: 1}, true},
		{api.Edit{Op: api.Rewire, B: 1, To: 3, Other: 3}, true},
		{api.Edit{Op: api.Rewire, F: 2}, true},
		{api.Edit{Op: api.Rewire, F: 1}, false},
		{api.Edit{Op: api.Rewire, F: 3}, false},
		{api.Edit{Op: api.Rewire, B: 0, To: 0, Other: 0}, false},
		{api.Edit{Op: api.Rewire, B: 2, To: 2, Other: 2}, false},
		{api.Edit{Op: api.Rewire, B: 0, To: 1, Other: 0}, false},
		{api.Edit{Op: api.Rewire, B: 0, To: 1, Other: 3}, false},
		{api.Edit{Op: api.AddEdge, B: 0, To: 0, Other: 0}, false},
		{api.Edit{Op: api.DelEdge, B: 0, To: 1, Other: 1}, false},
		{api.Edit{Op: api.AddFun}, false},
		{api.Edit{Op: 8, To: 1, Other: 1}, false},
	} {
		if got := edit.Same(made(), x.e); got != x.want {
			t.Error(x.e, got)
		}
	}
	for _, c := range chains() {
		if edit.Same(made(), c.good) {
			t.Error(c.good)
		}
	}
}

// P7.4: what an Op does not name may be anything.

// named are the parts that an Op is about.
var named = [api.Edits]string{
	api.AddFun: "bt", api.AddBlock: "f", api.DelBlock: "fb", api.AddEdge: "fbt",
	api.DelEdge: "fbt", api.Rewire: "fbto", api.Insert: "fbpi", api.Delete: "fbp",
}

// parted sets a part of an edit to n.
func parted(e api.Edit, part rune, n int) api.Edit {
	switch part {
	case 'f':
		e.F = n
	case 'b':
		e.B = n
	case 't':
		e.To = n
	case 'o':
		e.Other = n
	case 'p':
		e.Pos = n
	case 'i':
		e.I = api.Instr{Id: n, Kind: n, Dst: n, A: n, B: n, C: n, F: n, N: n, Args: [3]int{n, n, n}}
	}
	return e
}

func TestPartsNotNamed(t *testing.T) {
	for _, c := range chains() {
		for _, bad := range append(c.defects, defect{api.OK, func(p *api.Program, e *api.Edit) {}}) {
			p, e := made(), c.good
			bad.spoil(&p, &e)
			for _, n := range []int{math.MinInt, -1, 0, 1, 2, 3, 7, 96, math.MaxInt} {
				all := e
				for _, part := range "fbtopi" {
					if !slices.Contains([]rune(named[e.Op]), part) {
						all = parted(all, part, n)
						checkAlike(t, p, e, parted(e, part, n))
					}
				}
				checkAlike(t, p, e, all)
			}
		}
	}
}

func checkAlike(t *testing.T, p api.Program, e, other api.Edit) {
	if edit.Check(p, e) != edit.Check(p, other) || edit.Same(p, e) != edit.Same(p, other) || !slices.Equal(edit.Touches(p, e), edit.Touches(p, other)) {
		t.Error(e, other)
	}
}

// All edits of some programs, held against the chapter's words told apart from the calls.

// wantCheck goes by what is there alone: the functions' lists, and the Ids.
func wantCheck(p api.Program, e api.Edit) api.Errno {
	in := func(n, l int) bool { return n >= 0 && n < l }
	switch {
	case !prog.Sane(p):
		return api.ErrProgram
	case e.Op < 0 || e.Op > 7:
		return api.ErrForm
	case e.Op == 0 && (e.B < 0 || e.B > 3 || e.To < e.B || e.To > 6):
		return api.ErrForm
	case e.Op == 0 && len(p.Funs) == 6:
		return api.ErrFull
	case e.Op == 0:
		return api.OK
	case !in(e.F, len(p.Funs)):
		return api.ErrFun
	case e.Op == 1:
		return wantAddBlock(p.Funs[e.F].Blocks)
	}
	blocks := p.Funs[e.F].Blocks
	for _, b := range [api.Edits][]int{2: {e.B}, 3: {e.B, e.To}, 4: {e.B, e.To}, 5: {e.B, e.To, e.Other}, 6: {e.B}, 7: {e.B}}[e.Op] {
		if !in(b, len(blocks)) || !blocks[b].Live {
			return api.ErrBlock
		}
	}
	there := map[int]int{}
	for _, to := range blocks[e.B].Succ {
		there[to]++
	}
	switch {
	case e.Op == 2 && e.B == 0:
		return api.ErrEntry
	case e.Op == 3 && there[e.To] == 1, e.Op == 4 && there[e.To] == 0, e.Op == 5 && there[e.To] == 0:
		return api.ErrEdge
	case e.Op == 5 && e.Other != e.To && there[e.Other] == 1:
		return api.ErrEdge
	case e.Op == 6:
		return wantInsert(p, e, len(blocks[e.B].Code))
	case e.Op == 7 && !in(e.Pos, len(blocks[e.B].Code)):
		return api.ErrPlace
	}
	return api.OK
}

func wantAddBlock(l []api.Block) api.Errno {
	live := 0
	for _, b := range l {
		if b.Live {
			live++
		}
	}
	if live == 12 {
		return api.ErrFull
	}
	return api.OK
}

func wantInsert(p api.Program, e api.Edit, code int) api.Errno {
	_, _, all := prog.Count(p)
	vars := append(instr.Uses(e.I), instr.Def(e.I))
	switch {
	case e.Pos < 0 || e.Pos > code:
		return api.ErrPlace
	case e.I.Id != 0 || !instr.Form(e.I):
		return api.ErrForm
	case slices.Max(vars) >= p.Funs[e.F].Vars:
		return api.ErrVar
	case e.I.Kind == api.Call && e.I.F >= len(p.Funs):
		return api.ErrFun
	case e.I.Kind == api.Call && p.Funs[e.I.F].Arity != e.I.N:
		return api.ErrArity
	case code == 16 || all == 96:
		return api.ErrFull
	}
	return api.OK
}

// edits are all of an Op whose named parts are these numbers, or these instructions.
func edits(op int, numbers []int, code []api.Instr) []api.Edit {
	l := []api.Edit{{Op: op}}
	for _, part := range named[op] {
		var more []api.Edit
		for _, e := range l {
			if part == 'i' {
				for _, i := range code {
					e.I = i
					more = append(more, e)
				}
				continue
			}
			for _, n := range numbers {
				more = append(more, parted(e, part, n))
			}
		}
		l = more
	}
	return l
}

func TestAllEdits(t *testing.T) {
	numbers := []int{-1, 0, 1, 2, 3, 4, 6}
	code := []api.Instr{call, use, read, {Id: 3, Kind: api.Use}, {Kind: api.Ret}, {Kind: api.Add, Dst: 1, A: 1, B: 1}, {Kind: api.Mul, B: 3},
		{Kind: api.Call, F: 2}, {Kind: api.Call, F: 0, N: 1, Args: [3]int{1}}, {Kind: api.Call, Dst: 1, F: 5}, {Kind: api.Call, F: 1, N: 3}, {Kind: 10}}
	seen := map[api.Errno]int{}
	for _, p := range []api.Program{made(), withFuns(6), withBlocks(12), withCode(16), withIds(96), {}, notSane()[0]} {
		ahead := copied(p)
		for op := range api.Edits {
			for _, e := range edits(op, numbers, code) {
				seen[checkEdit(t, p, e)]++
			}
		}
		if !reflect.DeepEqual(p, ahead) {
			t.Error("what is handed in is changed")
		}
	}
	for _, err := range []api.Errno{api.OK, 1, 2, 3, 4, 5, 6, 7, 8, 9, 11} {
		if seen[err] < 5 {
			t.Error("too few tell", err, seen)
		}
	}
}

func checkEdit(t *testing.T, p api.Program, e api.Edit) api.Errno {
	want := wantCheck(p, e)
	var funs []int
	if want == api.OK {
		funs = []int{e.F}
	}
	if want == api.OK && e.Op == api.AddFun {
		funs = []int{len(p.Funs)}
	}
	if got := edit.Check(p, e); got != want {
		t.Fatalf("%+v: Check tells %d, not %d", e, got, want)
	}
	if got := edit.Touches(p, e); !slices.Equal(got, funs) {
		t.Fatalf("%+v: Touches tells %v, not %v", e, got, funs)
	}
	if got := edit.Same(p, e); got != (want == api.OK && e.Op == 5 && e.To == e.Other) {
		t.Fatalf("%+v: Same tells %v", e, got)
	}
	return want
}

// P1, R3: every call at numbers and programs of any kind; what is handed in stays.

func TestNothingIsChanged(t *testing.T) {
	far := []int{math.MinInt, -1, 0, 1, 12, math.MaxInt}
	l := append(notSane(), made(), withFuns(6), withBlocks(12), withCode(16), withIds(96), api.Program{}, api.Program{Funs: []api.Fun{}})
	for k, p := range l {
		ahead := copied(p)
		for _, op := range append(far, 2, 3, 4, 5, 6, 7, 8) {
			for _, n := range far {
				for _, m := range far {
					e := api.Edit{Op: op, F: n, B: m, To: n, Other: m, Pos: m}
					for _, e := range []api.Edit{e, parted(e, 'i', n), parted(e, 'i', m), inserted(parted(e, 'i', n).I)} {
						edit.Check(p, e)
						edit.Touches(p, e)
						edit.Same(p, e)
						edit.Name(n)
					}
				}
			}
		}
		if !reflect.DeepEqual(p, ahead) {
			t.Error(k, "is changed")
		}
	}
}
