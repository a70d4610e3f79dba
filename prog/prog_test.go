package prog_test

import (
	"math"
	"reflect"
	"slices"
	"testing"

	"bywash/api"
	"bywash/instr"
	"bywash/prog"
)

// small is the chapter's example: a function with one block of no instruction, and no edge.
func small() api.Program {
	return api.Program{Funs: []api.Fun{{Blocks: []api.Block{{Live: true}}}}}
}

// made is three functions that call each other, with all kinds of instructions, and a block between that is not Live.
func made() api.Program {
	return api.Program{Funs: []api.Fun{
		{Arity: 1, Vars: 4, Blocks: []api.Block{
			{Live: true, Succ: []int{1, 3}, Code: []api.Instr{
				{Id: 9, Kind: api.Const, Dst: 1, C: -7},
				{Id: 0, Kind: api.Call, Dst: 2, F: 1, N: 2, Args: [3]int{0, 1}},
			}},
			{Live: true, Succ: []int{0, 1, 4}, Code: []api.Instr{
				{Id: 7, Kind: api.Input, Dst: 1},
				{Id: 1, Kind: api.Call, Dst: 1, F: 0, N: 1, Args: [3]int{2}},
				{Id: 95, Kind: api.Use, A: 3},
			}},
			{},
			{Live: true, Succ: []int{4}},
			{Live: true, Code: []api.Instr{{Id: 2, Kind: api.Ret, A: 1}}},
		}},
		{Arity: 2, Vars: 3, Blocks: []api.Block{
			{Live: true, Code: []api.Instr{
				{Id: 6, Kind: api.Mul, Dst: 2, A: 0, B: 1},
				{Id: 5, Kind: api.Sub, Dst: 2, A: 2, B: 1},
				{Id: 4, Kind: api.Call, Dst: 0, F: 1, N: 2, Args: [3]int{2, 2}},
				{Id: 3, Kind: api.Ret, A: 0},
			}},
		}},
		{Arity: 0, Vars: 1, Blocks: []api.Block{
			{Live: true, Succ: []int{0}, Code: []api.Instr{
				{Id: 10, Kind: api.Neg}, {Id: 12, Kind: api.Copy}, {Id: 11, Kind: api.Add},
				{Id: 13, Kind: api.Call, F: 2}, {Id: 14, Kind: api.Call, F: 0, N: 1},
			}},
		}},
	}}
}

// crowded has all that there is room for: functions, blocks, Ids, instructions of one block, edges, variables.
func crowded() api.Program {
	p := api.Program{}
	for f := range 6 {
		fun := api.Fun{Arity: f % 4, Vars: 6, Blocks: make([]api.Block, 12)}
		for b := range fun.Blocks {
			fun.Blocks[b] = api.Block{Live: true, Succ: []int{0, 1, 2, 3, 4, 5, 6, 7, 8, 9, 10, 11}}
		}
		for k := range 16 {
			i := api.Instr{Id: 16*f + k, Kind: api.Mul, Dst: 5, A: k % 6, B: 5}
			fun.Blocks[f].Code = append(fun.Blocks[f].Code, i)
		}
		p.Funs = append(p.Funs, fun)
	}
	return p
}

// copied is p in memory of its own.
func copied(p api.Program) api.Program {
	q := api.Program{Funs: slices.Clone(p.Funs)}
	for f := range q.Funs {
		q.Funs[f].Blocks = slices.Clone(q.Funs[f].Blocks)
		for b := range q.Funs[f].Blocks {
			k := &q.Funs[f].Blocks[b]
			k.Code, k.Succ = slices.Clone(k.Code), slices.Clone(k.Succ)
		}
	}
	return q
}

// changed is made, but for what is done to it.
func changed(change func(p *api.Program)) api.Program {
	p := made()
	change(&p)
	return p
}

// withInstr is made, with i alone in the block 3 of the first function (of 4 variables and Arity 1).
func withInstr(i api.Instr) api.Program {
	return changed(func(p *api.Program) { p.Funs[0].Blocks[3].Code = []api.Instr{i} })
}

// withSucc is made, with these edges from its first block.
func withSucc(succ ...int) api.Program {
	return changed(func(p *api.Program) { p.Funs[0].Blocks[0].Succ = succ })
}

// funs is n functions, each the chapter's example.
func funs(n int) api.Program {
	p := api.Program{}
	for range n {
		p.Funs = append(p.Funs, small().Funs...)
	}
	return p
}

// sized is one function of one block, with Arity and Vars.
func sized(arity, vars int) api.Program {
	p := small()
	p.Funs[0].Arity, p.Funs[0].Vars = arity, vars
	return p
}

// blocks is one function with these blocks: '+' is Live, '-' is not.
func blocks(live string) api.Program {
	p := api.Program{Funs: []api.Fun{{}}}
	for _, c := range live {
		p.Funs[0].Blocks = append(p.Funs[0].Blocks, api.Block{Live: c == '+'})
	}
	return p
}

// code is one function with n instructions in one block.
func code(n int) api.Program {
	p := sized(0, 1)
	for k := range n {
		p.Funs[0].Blocks[0].Code = append(p.Funs[0].Blocks[0].Code, api.Instr{Id: k, Kind: api.Input})
	}
	return p
}

type sample struct {
	name string
	p    api.Program
	sane bool
}

// samples are programs that may be, and such that may not, each by one thing alone.
func samples() []sample {
	l := []sample{
		{"no function", api.Program{}, true},
		{"no function, not nil", api.Program{Funs: []api.Fun{}}, true},
		{"the example", small(), true},
		{"made", made(), true},
		{"crowded", crowded(), true},
		{"MaxFuns functions", funs(6), true},
		{"a function more", funs(7), false},
		{"many functions", funs(1000), false},
		{"a function of zero values", api.Program{Funs: []api.Fun{{}}}, false},
	}
	l = append(l, sizes()...)
	l = append(l, blockSamples()...)
	l = append(l, edgeSamples()...)
	l = append(l, codeSamples()...)
	return append(l, idSamples()...)
}

func sizes() []sample {
	return []sample{
		{"Arity below 0", sized(-1, 0), false},
		{"Arity and Vars below 0", sized(-1, -1), false},
		{"the least Arity", sized(math.MinInt, 3), false},
		{"Arity 0, Vars 0", sized(0, 0), true},
		{"Vars below 0", sized(0, -1), false},
		{"the least Vars", sized(0, math.MinInt), false},
		{"Arity 1, Vars 0", sized(1, 0), false},
		{"Arity MaxArgs, Vars one below", sized(3, 2), false},
		{"Arity MaxArgs, Vars the same", sized(3, 3), true},
		{"Arity MaxArgs, Vars MaxVars", sized(3, 6), true},
		{"Arity above MaxArgs", sized(4, 6), false},
		{"Arity and Vars above", sized(4, 4), false},
		{"the greatest Arity", sized(math.MaxInt, math.MaxInt), false},
		{"Arity 0, Vars MaxVars", sized(0, 6), true},
		{"Vars above MaxVars", sized(0, 7), false},
		{"the greatest Vars", sized(3, math.MaxInt), false},
		{"the last function of an Arity that may not be", changed(func(p *api.Program) { p.Funs = append(p.Funs, sized(4, 4).Funs...) }), false},
	}
}

func blockSamples() []sample {
	between := func(change func(b *api.Block)) api.Program {
		return changed(func(p *api.Program) { change(&p.Funs[0].Blocks[2]) })
	}
	return []sample{
		{"no block", blocks(""), false},
		{"blocks that are not nil, and none", changed(func(p *api.Program) { p.Funs[2].Blocks = []api.Block{} }), false},
		{"one block", blocks("+"), true},
		{"one block that is not Live", blocks("-"), false},
		{"two blocks", blocks("++"), true},
		{"the first one of two not Live", blocks("-+"), false},
		{"the last one of two not Live", blocks("+-"), false},
		{"the first one of three not Live", blocks("-++"), false},
		{"the last one of three not Live", blocks("++-"), false},
		{"one between not Live", blocks("+-+"), true},
		{"all between not Live", blocks("+----------+"), true},
		{"MaxBlocks blocks", blocks("++++++++++++"), true},
		{"a block more", blocks("+++++++++++++"), false},
		{"a block more, few of them Live", blocks("+-----------+"), false},
		{"not Live, with Code", between(func(b *api.Block) { b.Code = []api.Instr{{Id: 50, Kind: api.Input}} }), false},
		{"not Live, with Succ", between(func(b *api.Block) { b.Succ = []int{3} }), false},
		{"not Live, with both", between(func(b *api.Block) { b.Code, b.Succ = []api.Instr{{Id: 50, Kind: api.Input}}, []int{0} }), false},
		{"not Live, with lists of nothing", between(func(b *api.Block) { b.Code, b.Succ = []api.Instr{}, []int{} }), true},
		{"Live, with lists of nothing", between(func(b *api.Block) { *b = api.Block{Live: true, Code: []api.Instr{}, Succ: []int{}} }), true},
	}
}

func edgeSamples() []sample {
	return []sample{
		{"no edge", withSucc(), true},
		{"an edge to itself", withSucc(0), true},
		{"all edges", withSucc(0, 1, 3, 4), true},
		{"Succ falls", withSucc(3, 1), false},
		{"Succ falls at its end", withSucc(0, 1, 4, 3), false},
		{"Succ falls in the middle", withSucc(0, 3, 1, 4), false},
		{"a number twice", withSucc(1, 1), false},
		{"0 twice", withSucc(0, 0), false},
		{"a number twice, apart", withSucc(1, 3, 1), false},
		{"a number twice at the end", withSucc(0, 1, 4, 4), false},
		{"a number below 0", withSucc(-1), false},
		{"a number below 0, ahead", withSucc(-1, 0, 1), false},
		{"the least number", withSucc(math.MinInt, 0), false},
		{"of no block", withSucc(5), false},
		{"of no block, behind", withSucc(0, 5), false},
		{"the greatest number", withSucc(0, 1, math.MaxInt), false},
		{"of a block that is not Live", withSucc(2), false},
		{"of a block that is not Live, between", withSucc(1, 2, 3), false},
		{"of a block that another function has", changed(func(p *api.Program) { p.Funs[1].Blocks[0].Succ = []int{1} }), false},
		{"of the last block", changed(func(p *api.Program) { p.Funs[0].Blocks[4].Succ = []int{2} }), false},
	}
}

func codeSamples() []sample {
	l := []sample{
		{"no instruction", code(0), true},
		{"MaxCode instructions", code(16), true},
		{"an instruction more", code(17), false},
		{"MaxCode instructions, and one in another block", changed(func(p *api.Program) {
			p.Funs = append(code(16).Funs, small().Funs...)
			p.Funs[0].Blocks = append(p.Funs[0].Blocks, api.Block{Live: true, Code: []api.Instr{{Id: 90, Kind: api.Input}}})
		}), true},
		{"an instruction more in the last block", changed(func(p *api.Program) {
			p.Funs[0].Blocks[4] = code(17).Funs[0].Blocks[0]
			p.Funs[0].Blocks[0], p.Funs[0].Blocks[1] = api.Block{Live: true}, api.Block{Live: true}
			p.Funs = p.Funs[:1]
		}), false},
		{"a Call of a function that calls it", withInstr(api.Instr{Id: 50, Kind: api.Call, F: 2}), true},
		{"a Call of itself", withInstr(api.Instr{Id: 50, Kind: api.Call, F: 0, N: 1, Args: [3]int{3}}), true},
		{"a Call of no function", withInstr(api.Instr{Id: 50, Kind: api.Call, F: 3}), false},
		{"a Call of the greatest function", withInstr(api.Instr{Id: 50, Kind: api.Call, F: math.MaxInt}), false},
		{"a Call of a function below 0", withInstr(api.Instr{Id: 50, Kind: api.Call, F: -1}), false},
		{"an argument too few", withInstr(api.Instr{Id: 50, Kind: api.Call, F: 1, N: 1}), false},
		{"an argument too many", withInstr(api.Instr{Id: 50, Kind: api.Call, F: 1, N: 3}), false},
		{"no argument of one", withInstr(api.Instr{Id: 50, Kind: api.Call, F: 0}), false},
		{"one argument of none", withInstr(api.Instr{Id: 50, Kind: api.Call, F: 2, N: 1}), false},
		{"a function of another Arity than its Calls", changed(func(p *api.Program) { p.Funs[1].Arity = 1 }), false},
		{"a function gone that is called", changed(func(p *api.Program) { p.Funs[2].Blocks[0].Code[3].F = 3 }), false},
	}
	for _, x := range variables() {
		l = append(l, sample{x.name, withInstr(x.i(3)), true}, sample{x.name + " at Vars", withInstr(x.i(4)), false},
			sample{x.name + " far", withInstr(x.i(math.MaxInt)), false}, sample{x.name + " below 0", withInstr(x.i(-1)), false})
	}
	for _, i := range forms() {
		l = append(l, sample{"an instruction that may not be", withInstr(i), false})
	}
	return l
}

// variables are instructions with a variable in each place that one may have.
func variables() []struct {
	name string
	i    func(v int) api.Instr
} {
	return []struct {
		name string
		i    func(v int) api.Instr
	}{
		{"Dst of a Const", func(v int) api.Instr { return api.Instr{Id: 50, Kind: api.Const, Dst: v} }},
		{"Dst of an Input", func(v int) api.Instr { return api.Instr{Id: 50, Kind: api.Input, Dst: v} }},
		{"Dst of a Call", func(v int) api.Instr { return api.Instr{Id: 50, Kind: api.Call, Dst: v, F: 2} }},
		{"Dst of an Add", func(v int) api.Instr { return api.Instr{Id: 50, Kind: api.Add, Dst: v, A: 1, B: 1} }},
		{"A of a Copy", func(v int) api.Instr { return api.Instr{Id: 50, Kind: api.Copy, A: v} }},
		{"A of an Add", func(v int) api.Instr { return api.Instr{Id: 50, Kind: api.Add, A: v, B: 1} }},
		{"A of a Use", func(v int) api.Instr { return api.Instr{Id: 50, Kind: api.Use, A: v} }},
		{"A of a Ret", func(v int) api.Instr { return api.Instr{Id: 50, Kind: api.Ret, A: v} }},
		{"B of a Sub", func(v int) api.Instr { return api.Instr{Id: 50, Kind: api.Sub, A: 1, B: v} }},
		{"an argument", func(v int) api.Instr { return api.Instr{Id: 50, Kind: api.Call, F: 0, N: 1, Args: [3]int{v}} }},
		{"the last argument", func(v int) api.Instr { return api.Instr{Id: 50, Kind: api.Call, F: 1, N: 2, Args: [3]int{1, v}} }},
		{"the first argument", func(v int) api.Instr { return api.Instr{Id: 50, Kind: api.Call, F: 1, N: 2, Args: [3]int{v, 1}} }},
	}
}

// forms are instructions that may not be in any program.
func forms() []api.Instr {
	return []api.Instr{
		{Id: 50, Kind: -1}, {Id: 50, Kind: 10}, {Id: 50, Kind: math.MaxInt},
		{Id: -1, Kind: api.Input}, {Id: 96, Kind: api.Input}, {Id: math.MinInt, Kind: api.Input}, {Id: math.MaxInt, Kind: api.Input},
		{Id: 50, Kind: api.Const, C: 1 << 31}, {Id: 50, Kind: api.Const, C: -1<<31 - 1}, {Id: 50, Kind: api.Const, A: 1},
		{Id: 50, Kind: api.Input, C: 1}, {Id: 50, Kind: api.Use, Dst: 1}, {Id: 50, Kind: api.Copy, F: 1}, {Id: 50, Kind: api.Copy, N: 1},
		{Id: 50, Kind: api.Call, F: 2, N: -1}, {Id: 50, Kind: api.Call, F: 2, N: 4}, {Id: 50, Kind: api.Call, F: 2, Args: [3]int{1}},
		{Id: 50, Kind: api.Call, F: 0, N: 1, Args: [3]int{0, 0, 1}},
	}
}

func idSamples() []sample {
	return []sample{
		{"one Id twice in one block", changed(func(p *api.Program) { p.Funs[1].Blocks[0].Code[3].Id = 6 }), false},
		{"one Id twice in one block, side by side", changed(func(p *api.Program) { p.Funs[1].Blocks[0].Code[1].Id = 6 }), false},
		{"one Id in two blocks", changed(func(p *api.Program) { p.Funs[0].Blocks[4].Code[0].Id = 9 }), false},
		{"one Id in two functions", changed(func(p *api.Program) { p.Funs[1].Blocks[0].Code[3].Id = 2 }), false},
		{"the Id 0 in two functions", changed(func(p *api.Program) { p.Funs[2].Blocks[0].Code[4].Id = 0 }), false},
		{"the last Id in two functions", changed(func(p *api.Program) { p.Funs[2].Blocks[0].Code[4].Id = 95 }), false},
		{"one instruction twice", changed(func(p *api.Program) {
			p.Funs[0].Blocks[3].Code = []api.Instr{p.Funs[0].Blocks[4].Code[0]}
		}), false},
		{"an Id too many", changed(func(p *api.Program) {
			*p = crowded()
			p.Funs[5].Blocks[11].Code = []api.Instr{{Id: 95, Kind: api.Input}}
		}), false},
	}
}

// P6.1

func TestSane(t *testing.T) {
	for _, x := range samples() {
		if prog.Sane(x.p) != x.sane {
			t.Errorf("%s: Sane is not %v", x.name, x.sane)
		}
	}
}

func TestNotSane(t *testing.T) {
	for _, x := range samples() {
		if x.sane {
			continue
		}
		for _, f := range []int{-1, 0, 1, 2, 7, math.MinInt, math.MaxInt} {
			for b := -1; b <= 5; b++ {
				if k, ok := prog.Block(x.p, f, b); ok || !isNoBlock(k) {
					t.Error(x.name, "Block", f, b, k)
				}
				if i, ok := prog.At(x.p, f, b, 0); ok || i != (api.Instr{}) {
					t.Error(x.name, "At", f, b, i)
				}
				if l := prog.Preds(x.p, f, b); len(l) > 0 {
					t.Error(x.name, "Preds", f, b, l)
				}
				if l := prog.Defs(x.p, f, b); len(l) > 0 {
					t.Error(x.name, "Defs", f, b, l)
				}
			}
			if g, ok := prog.Fun(x.p, f); ok || !isNoFun(g) {
				t.Error(x.name, "Fun", f, g)
			}
			if l := prog.Calls(x.p, f); len(l) > 0 {
				t.Error(x.name, "Calls", f, l)
			}
			if b := prog.NewBlock(x.p, f); b != -1 {
				t.Error(x.name, "NewBlock", f, b)
			}
		}
		if n := prog.NewId(x.p); n != -1 {
			t.Error(x.name, "NewId", n)
		}
		if f, b, i := prog.Count(x.p); f != 0 || b != 0 || i != 0 {
			t.Error(x.name, "Count", f, b, i)
		}
	}
}

func isNoBlock(b api.Block) bool { return !b.Live && b.Code == nil && b.Succ == nil }

func isNoFun(f api.Fun) bool { return f.Arity == 0 && f.Vars == 0 && f.Blocks == nil }

// P6.2

func TestSame(t *testing.T) {
	l := samples()
	for _, x := range l {
		if !prog.Same(x.p, x.p) || !prog.Same(x.p, copied(x.p)) || !prog.Same(copied(x.p), x.p) {
			t.Error(x.name, "is not the same as itself")
		}
	}
	// Of these all are unlike each other, whether they may be or not.
	unlike := append(changes(), api.Program{}, funs(1), funs(2), funs(6), funs(7), crowded())
	for j, p := range unlike {
		for k, q := range unlike {
			if prog.Same(p, q) != (j == k) {
				t.Error(j, k)
			}
		}
	}
}

// changes are made, and made with one thing changed.
func changes() []api.Program {
	l := []api.Program{made()}
	for _, change := range []func(p *api.Program){
		func(p *api.Program) { p.Funs[0].Arity = 2 },
		func(p *api.Program) { p.Funs[2].Vars = 2 },
		func(p *api.Program) { p.Funs[2].Vars = -1 },
		func(p *api.Program) { p.Funs = p.Funs[:2] },
		func(p *api.Program) { p.Funs = append(p.Funs, api.Fun{}) },
		func(p *api.Program) { p.Funs[0], p.Funs[1] = p.Funs[1], p.Funs[0] },
		func(p *api.Program) { p.Funs[0].Blocks = p.Funs[0].Blocks[:4] },
		func(p *api.Program) { p.Funs[0].Blocks = append(p.Funs[0].Blocks, api.Block{}) },
		func(p *api.Program) { p.Funs[2].Blocks = nil },
		func(p *api.Program) { p.Funs[0].Blocks[2].Live = true },
		func(p *api.Program) { p.Funs[0].Blocks[0].Live = false },
		func(p *api.Program) { p.Funs[0].Blocks[2].Succ = []int{0} },
		func(p *api.Program) { p.Funs[0].Blocks[2].Code = []api.Instr{{}} },
		func(p *api.Program) { p.Funs[0].Blocks[0].Succ = nil },
		func(p *api.Program) { p.Funs[0].Blocks[0].Succ = []int{1} },
		func(p *api.Program) { p.Funs[0].Blocks[0].Succ = []int{3, 1} },
		func(p *api.Program) { p.Funs[0].Blocks[0].Succ = []int{1, 3, 3} },
		func(p *api.Program) { p.Funs[0].Blocks[0].Succ = []int{1, 4} },
		func(p *api.Program) { p.Funs[0].Blocks[4].Code = nil },
		func(p *api.Program) { p.Funs[0].Blocks[1].Code = p.Funs[0].Blocks[1].Code[1:] },
		func(p *api.Program) { p.Funs[0].Blocks[1].Code = append(p.Funs[0].Blocks[1].Code, api.Instr{}) },
		func(p *api.Program) { slices.Reverse(p.Funs[0].Blocks[1].Code) },
		func(p *api.Program) { p.Funs[1].Blocks[0].Code[2].Id = 60 },
		func(p *api.Program) { p.Funs[1].Blocks[0].Code[2].Kind = 60 },
		func(p *api.Program) { p.Funs[1].Blocks[0].Code[2].Dst = 1 },
		func(p *api.Program) { p.Funs[1].Blocks[0].Code[2].A = 1 },
		func(p *api.Program) { p.Funs[1].Blocks[0].Code[2].B = 1 },
		func(p *api.Program) { p.Funs[1].Blocks[0].Code[2].C = 1 },
		func(p *api.Program) { p.Funs[1].Blocks[0].Code[2].F = 0 },
		func(p *api.Program) { p.Funs[1].Blocks[0].Code[2].N = 0 },
		func(p *api.Program) { p.Funs[1].Blocks[0].Code[2].Args[0] = 0 },
		func(p *api.Program) { p.Funs[1].Blocks[0].Code[2].Args[2] = 1 },
	} {
		l = append(l, changed(change))
	}
	return l
}

func TestSameWithoutElements(t *testing.T) {
	for _, x := range []struct{ p, q api.Program }{
		{api.Program{}, api.Program{Funs: []api.Fun{}}},
		{api.Program{Funs: []api.Fun{{}}}, api.Program{Funs: []api.Fun{{Blocks: []api.Block{}}}}},
		{small(), api.Program{Funs: []api.Fun{{Blocks: []api.Block{{Live: true, Code: []api.Instr{}, Succ: []int{}}}}}}},
		{api.Program{Funs: []api.Fun{{Blocks: []api.Block{{Code: []api.Instr{}}}}}}, api.Program{Funs: []api.Fun{{Blocks: []api.Block{{Succ: []int{}}}}}}},
	} {
		if !prog.Same(x.p, x.q) || !prog.Same(x.q, x.p) {
			t.Error(x.p, x.q)
		}
	}
	if prog.Same(api.Program{}, api.Program{Funs: []api.Fun{{}}}) || prog.Same(api.Program{Funs: []api.Fun{{}}}, blocks("-")) {
		t.Error("a zero value is not nothing")
	}
}

// numbers are places of lists: all of them, those beside them, and far ones.
func numbers(n int) []int {
	l := []int{math.MinInt, -2, n + 1, math.MaxInt}
	for k := -1; k <= n; k++ {
		l = append(l, k)
	}
	return l
}

// each calls what is tested for every sample that may be.
func each(t *testing.T, test func(t *testing.T, p api.Program)) {
	for _, x := range samples() {
		if x.sane {
			t.Run(x.name, func(t *testing.T) { test(t, x.p) })
		}
	}
}

func TestParts(t *testing.T) {
	each(t, func(t *testing.T, p api.Program) {
		for _, f := range numbers(len(p.Funs)) {
			isFun := f >= 0 && f < len(p.Funs)
			want := api.Fun{}
			if isFun {
				want = p.Funs[f]
			}
			if got, ok := prog.Fun(p, f); ok != isFun || !prog.Same(alone(got), alone(want)) {
				t.Error("Fun", f, got, ok)
			}
			for _, b := range numbers(len(want.Blocks)) {
				checkBlock(t, p, f, b)
			}
		}
	})
}

func alone(f api.Fun) api.Program { return api.Program{Funs: []api.Fun{f}} }

func checkBlock(t *testing.T, p api.Program, f, b int) {
	isBlock := f >= 0 && f < len(p.Funs) && b >= 0 && b < len(p.Funs[f].Blocks) && p.Funs[f].Blocks[b].Live
	want := api.Block{}
	if isBlock {
		want = p.Funs[f].Blocks[b]
	}
	got, ok := prog.Block(p, f, b)
	if ok != isBlock || got.Live != isBlock || !slices.Equal(got.Code, want.Code) || !slices.Equal(got.Succ, want.Succ) {
		t.Error("Block", f, b, got, ok)
	}
	for _, pos := range numbers(len(want.Code)) {
		isInstr, i := pos >= 0 && pos < len(want.Code), api.Instr{}
		if isInstr {
			i = want.Code[pos]
		}
		if got, ok := prog.At(p, f, b, pos); ok != isInstr || got != i {
			t.Error("At", f, b, pos, got, ok)
		}
	}
}

func TestPartsByHand(t *testing.T) {
	p := made()
	if f, ok := prog.Fun(p, 1); !ok || f.Arity != 2 || f.Vars != 3 || len(f.Blocks) != 1 {
		t.Error(f, ok)
	}
	if b, ok := prog.Block(p, 0, 3); !ok || !b.Live || len(b.Code) != 0 || !slices.Equal(b.Succ, []int{4}) {
		t.Error(b, ok)
	}
	if b, ok := prog.Block(p, 0, 2); ok || !isNoBlock(b) {
		t.Error("a block that is not Live", b)
	}
	if i, ok := prog.At(p, 0, 4, 0); !ok || i != (api.Instr{Id: 2, Kind: api.Ret, A: 1}) {
		t.Error(i, ok)
	}
	if i, ok := prog.At(p, 0, 4, 1); ok || i != (api.Instr{}) {
		t.Error("just beyond the last one", i)
	}
}

// P6.3

func TestPredsByHand(t *testing.T) {
	p := made()
	for _, x := range []struct {
		f, b int
		want []int
	}{
		{0, 0, []int{1}}, {0, 1, []int{0, 1}}, {0, 2, nil}, {0, 3, []int{0}}, {0, 4, []int{1, 3}}, {0, 5, nil}, {0, -1, nil},
		{1, 0, nil}, {2, 0, []int{0}}, {2, 1, nil}, {3, 0, nil}, {-1, 0, nil}, {math.MaxInt, math.MaxInt, nil},
	} {
		if got := prog.Preds(p, x.f, x.b); !slices.Equal(got, x.want) {
			t.Error(x.f, x.b, got)
		}
	}
	if got := prog.Preds(crowded(), 5, 11); !slices.Equal(got, []int{0, 1, 2, 3, 4, 5, 6, 7, 8, 9, 10, 11}) {
		t.Error(got)
	}
}

func TestDefsByHand(t *testing.T) {
	p := made()
	for _, x := range []struct {
		f, v int
		want []int
	}{
		{0, 0, nil}, {0, 1, []int{1, 7, 9}}, {0, 2, []int{0}}, {0, 3, nil}, {0, 4, nil}, {0, -1, nil}, {0, math.MinInt, nil}, {0, math.MaxInt, nil},
		{1, 0, []int{4}}, {1, 1, nil}, {1, 2, []int{5, 6}}, {1, -1, nil},
		{2, 0, []int{10, 11, 12, 13, 14}}, {2, 1, nil}, {3, 0, nil}, {-1, 0, nil}, {-1, -1, nil},
	} {
		if got := prog.Defs(p, x.f, x.v); !slices.Equal(got, x.want) {
			t.Error(x.f, x.v, got)
		}
	}
}

func TestCallsByHand(t *testing.T) {
	p := made()
	for _, x := range []struct {
		f    int
		want [][3]int
	}{
		{0, [][3]int{{0, 1, 1}, {2, 0, 4}}}, {1, [][3]int{{0, 0, 1}, {1, 0, 2}}}, {2, [][3]int{{2, 0, 3}}},
		{3, nil}, {-1, nil}, {math.MinInt, nil}, {math.MaxInt, nil},
	} {
		if got := prog.Calls(p, x.f); !slices.Equal(got, x.want) {
			t.Error(x.f, got)
		}
	}
	// F is 0 in all instructions that are no Call, too.
	if got := prog.Calls(code(3), 0); len(got) != 0 {
		t.Error(got)
	}
	// Ids do not tell in which order calls stand.
	q := sized(0, 1)
	q.Funs[0].Blocks[0].Code = []api.Instr{{Id: 9, Kind: api.Call}, {Id: 3, Kind: api.Call}}
	q.Funs[0].Blocks = append(q.Funs[0].Blocks, api.Block{}, api.Block{Live: true, Code: []api.Instr{{Id: 1, Kind: api.Call}}})
	if got := prog.Calls(q, 0); !slices.Equal(got, [][3]int{{0, 0, 0}, {0, 0, 1}, {0, 2, 0}}) {
		t.Error(got)
	}
}

func TestListsOfAll(t *testing.T) {
	each(t, func(t *testing.T, p api.Program) {
		for _, f := range numbers(len(p.Funs)) {
			for _, b := range numbers(12) {
				if got, want := prog.Preds(p, f, b), wantPreds(p, f, b); !slices.Equal(got, want) {
					t.Error("Preds", f, b, got, want)
				}
			}
			for _, v := range numbers(6) {
				if got, want := prog.Defs(p, f, v), wantDefs(p, f, v); !slices.Equal(got, want) {
					t.Error("Defs", f, v, got, want)
				}
			}
			if got, want := prog.Calls(p, f), wantCalls(p, f); !slices.Equal(got, want) {
				t.Error("Calls", f, got, want)
			}
		}
	})
}

// funOf is a function of a program that may be, or nothing.
func funOf(p api.Program, f int) api.Fun {
	if f < 0 || f >= len(p.Funs) {
		return api.Fun{}
	}
	return p.Funs[f]
}

func wantPreds(p api.Program, f, b int) []int {
	var l []int
	for a, k := range funOf(p, f).Blocks {
		for _, s := range k.Succ {
			if s == b {
				l = append(l, a)
			}
		}
	}
	return l
}

// wantDefs goes over the Ids, so that they rise.
func wantDefs(p api.Program, f, v int) []int {
	var l []int
	for id := range 96 {
		for _, k := range funOf(p, f).Blocks {
			for _, i := range k.Code {
				if i.Id == id && i.Kind != api.Use && i.Kind != api.Ret && i.Dst == v {
					l = append(l, id)
				}
			}
		}
	}
	return l
}

func wantCalls(p api.Program, f int) [][3]int {
	var l [][3]int
	for g := range p.Funs {
		for b := range p.Funs[g].Blocks {
			for pos, i := range p.Funs[g].Blocks[b].Code {
				if i.Kind == api.Call && i.F == f {
					l = append(l, [3]int{g, b, pos})
				}
			}
		}
	}
	return l
}

// P6.4

func TestNewId(t *testing.T) {
	without := func(id int) api.Program {
		p := crowded()
		k := &p.Funs[id/16].Blocks[id/16]
		k.Code = slices.Delete(k.Code, id%16, id%16+1)
		return p
	}
	for _, x := range []struct {
		p    api.Program
		want int
	}{
		{api.Program{}, 0}, {small(), 0}, {made(), 8}, {code(1), 1}, {code(16), 16}, {crowded(), -1},
		{without(0), 0}, {without(1), 1}, {without(40), 40}, {without(95), 95},
		{withInstr(api.Instr{Id: 8, Kind: api.Input}), 15},
		{changed(func(p *api.Program) { p.Funs = p.Funs[2:]; p.Funs[0].Blocks[0].Code = nil }), 0},
	} {
		if got := prog.NewId(x.p); got != x.want {
			t.Error(got, x.want)
		}
	}
	each(t, func(t *testing.T, p api.Program) {
		want := -1
		for id := 95; id >= 0; id-- {
			if !hasId(p, id) {
				want = id
			}
		}
		if got := prog.NewId(p); got != want {
			t.Error(got, want)
		}
	})
}

func hasId(p api.Program, id int) bool {
	for _, f := range p.Funs {
		for _, b := range f.Blocks {
			for _, i := range b.Code {
				if i.Id == id {
					return true
				}
			}
		}
	}
	return false
}

func TestNewBlock(t *testing.T) {
	for _, x := range []struct {
		live string
		want int
	}{
		{"+", 1}, {"++", 2}, {"+-+", 1}, {"++-+", 2}, {"++-+-+", 2}, {"+----------+", 1},
		{"+++++++++++", 11}, {"++++++++++-+", 10}, {"++++++++++++", -1},
	} {
		p := blocks(x.live)
		p.Funs = append(p.Funs, small().Funs...)
		if got := prog.NewBlock(p, 0); got != x.want {
			t.Error(x.live, got)
		}
		if got := prog.NewBlock(p, 1); got != 1 {
			t.Error(x.live, "the other function", got)
		}
		for _, f := range []int{math.MinInt, -1, 2, math.MaxInt} {
			if got := prog.NewBlock(p, f); got != -1 {
				t.Error(x.live, "no function", f, got)
			}
		}
	}
	if prog.NewBlock(made(), 0) != 2 || prog.NewBlock(crowded(), 5) != -1 || prog.NewBlock(api.Program{}, 0) != -1 {
		t.Error("NewBlock")
	}
}

func TestCount(t *testing.T) {
	for _, x := range []struct {
		p    api.Program
		want [3]int
	}{
		{api.Program{}, [3]int{}}, {small(), [3]int{1, 1, 0}}, {made(), [3]int{3, 6, 15}}, {crowded(), [3]int{6, 72, 96}},
		{code(16), [3]int{1, 1, 16}}, {blocks("+--+-+"), [3]int{1, 3, 0}}, {funs(6), [3]int{6, 6, 0}}, {funs(7), [3]int{}},
	} {
		if f, b, i := prog.Count(x.p); [3]int{f, b, i} != x.want {
			t.Error(f, b, i, x.want)
		}
	}
}

// P6.5

func TestFollows(t *testing.T) {
	each(t, func(t *testing.T, p api.Program) {
		for f := range p.Funs {
			for _, a := range numbers(12) {
				for _, b := range numbers(12) {
					from, _ := prog.Block(p, f, a)
					follows := slices.Contains(from.Succ, b)
					if precedes := slices.Contains(prog.Preds(p, f, b), a); follows != precedes {
						t.Error(f, a, b, follows, precedes)
					}
				}
			}
		}
	})
}

// What holds of all, tried at programs made by a rule: some may be, some may not.

// mayBe is P6.1, clause by clause.
func mayBe(p api.Program) bool {
	if len(p.Funs) > 6 {
		return false
	}
	ids := map[int]int{}
	for _, f := range p.Funs {
		n := len(f.Blocks)
		if f.Arity < 0 || f.Arity > 3 || f.Vars < f.Arity || f.Vars > 6 || n < 1 || n > 12 || !f.Blocks[0].Live || !f.Blocks[n-1].Live {
			return false
		}
		for _, b := range f.Blocks {
			if !b.Live && (len(b.Code) > 0 || len(b.Succ) > 0) || len(b.Code) > 16 || !slices.IsSorted(b.Succ) {
				return false
			}
			for _, s := range b.Succ {
				twice := slices.Index(b.Succ, s) != len(b.Succ)-1-slices.Index(reversed(b.Succ), s)
				if twice || s < 0 || s >= n || !f.Blocks[s].Live {
					return false
				}
			}
			for _, i := range b.Code {
				ids[i.Id]++
				if ids[i.Id] > 1 || !instr.Form(i) || !hasVars(i, f.Vars) || i.Kind == api.Call && (i.F >= len(p.Funs) || p.Funs[i.F].Arity != i.N) {
					return false
				}
			}
		}
	}
	return true
}

func reversed(l []int) []int {
	m := slices.Clone(l)
	slices.Reverse(m)
	return m
}

// hasVars: what an instruction has not is 0, which may be above what a function has not.
func hasVars(i api.Instr, vars int) bool {
	has := map[int][]int{
		api.Const: {i.Dst}, api.Copy: {i.Dst, i.A}, api.Neg: {i.Dst, i.A}, api.Add: {i.Dst, i.A, i.B}, api.Sub: {i.Dst, i.A, i.B},
		api.Mul: {i.Dst, i.A, i.B}, api.Input: {i.Dst}, api.Call: append([]int{i.Dst}, i.Args[:i.N]...), api.Use: {i.A}, api.Ret: {i.A},
	}
	return slices.Max(has[i.Kind]) < vars
}

// numbersOf tells numbers, the same ones each time.
type numbersOf struct{ seed uint64 }

func (r *numbersOf) below(n int) int {
	r.seed = r.seed*6364136223846793005 + 1442695040888963407
	return int(r.seed>>33) % n
}

// rolled is a program that may be, or one that nearly may.
func rolled(r *numbersOf) api.Program {
	p := api.Program{Funs: make([]api.Fun, 1+r.below(4))}
	id := r.below(50)
	for f := range p.Funs {
		p.Funs[f].Arity = r.below(4)
		p.Funs[f].Vars = min(6, p.Funs[f].Arity+1+r.below(3))
	}
	for f := range p.Funs {
		live := "+"
		for range r.below(5) {
			live += string("+-"[r.below(2)])
		}
		p.Funs[f].Blocks = blocks(live + "+").Funs[0].Blocks
		for b := range p.Funs[f].Blocks {
			if k := &p.Funs[f].Blocks[b]; k.Live {
				*k = rolledBlock(r, p, f, &id)
			}
		}
	}
	return p
}

func rolledBlock(r *numbersOf, p api.Program, f int, id *int) api.Block {
	k := api.Block{Live: true}
	for b, other := range p.Funs[f].Blocks {
		if other.Live && r.below(3) == 0 {
			k.Succ = append(k.Succ, b)
		}
	}
	v := func() int { return r.below(p.Funs[f].Vars) }
	for range r.below(3) {
		g := r.below(len(p.Funs))
		i := []api.Instr{{Kind: api.Const, Dst: v(), C: 5}, {Kind: api.Add, Dst: v(), A: v(), B: v()}, {Kind: api.Use, A: v()},
			{Kind: api.Ret, A: v()}, {Kind: api.Call, Dst: v(), F: g, N: p.Funs[g].Arity}}[r.below(5)]
		for a := range i.N {
			i.Args[a] = v()
		}
		i.Id = *id % 96
		*id += 1 + r.below(3)
		k.Code = append(k.Code, i)
	}
	return k
}

// spoil changes one number of p by one.
func spoil(r *numbersOf, p *api.Program) {
	f := &p.Funs[r.below(len(p.Funs))]
	b := &f.Blocks[r.below(len(f.Blocks))]
	at := []*int{&f.Arity, &f.Vars}
	for k := range b.Succ {
		at = append(at, &b.Succ[k])
	}
	for k := range b.Code {
		i := &b.Code[k]
		at = append(at, &i.Id, &i.Kind, &i.Dst, &i.A, &i.B, &i.C, &i.F, &i.N, &i.Args[0], &i.Args[1], &i.Args[2])
	}
	if k := r.below(len(at) + 2); k < len(at) {
		*at[k] += 2*r.below(2) - 1
	} else {
		b.Live = !b.Live
	}
}

func TestManyPrograms(t *testing.T) {
	r, seen := &numbersOf{1}, map[bool]int{}
	for range 4000 {
		p := rolled(r)
		if r.below(3) > 0 {
			spoil(r, &p)
		}
		ahead, want := copied(p), mayBe(p)
		seen[want]++
		if prog.Sane(p) != want {
			t.Fatalf("Sane(%+v) is not %v", p, want)
		}
		if !prog.Same(p, ahead) {
			t.Fatal("Same", p)
		}
		for f := -1; f < 5; f++ {
			checkLists(t, p, f, want)
		}
		if !reflect.DeepEqual(p, ahead) {
			t.Fatal("what is handed in is changed", ahead, p)
		}
	}
	if seen[true] < 500 || seen[false] < 500 {
		t.Error("too few of one kind", seen)
	}
}

func checkLists(t *testing.T, p api.Program, f int, sane bool) {
	q := p
	if !sane {
		q = api.Program{}
	}
	for k := -1; k < 8; k++ {
		if got := prog.Preds(p, f, k); !slices.Equal(got, wantPreds(q, f, k)) {
			t.Fatal("Preds", p, f, k, got)
		}
		if got := prog.Defs(p, f, k); !slices.Equal(got, wantDefs(q, f, k)) {
			t.Fatal("Defs", p, f, k, got)
		}
	}
	if got := prog.Calls(p, f); !slices.Equal(got, wantCalls(q, f)) {
		t.Fatal("Calls", p, f, got)
	}
}

// P1, R3: every call at numbers and programs of any kind; what is handed in stays.

func TestNothingIsChanged(t *testing.T) {
	far := []int{math.MinInt, -1, 0, 1, 2, 5, 12, 16, 96, math.MaxInt}
	for _, x := range samples() {
		ahead := copied(x.p)
		prog.Sane(x.p)
		prog.Same(x.p, made())
		prog.Same(made(), x.p)
		prog.NewId(x.p)
		prog.Count(x.p)
		for _, f := range far {
			prog.Fun(x.p, f)
			prog.Calls(x.p, f)
			prog.NewBlock(x.p, f)
			for _, b := range far {
				prog.Block(x.p, f, b)
				prog.Preds(x.p, f, b)
				prog.Defs(x.p, f, b)
				for _, pos := range far {
					prog.At(x.p, f, b, pos)
				}
			}
		}
		if !reflect.DeepEqual(x.p, ahead) {
			t.Error(x.name, "is changed")
		}
	}
}
