package prog

import (
	"errors"
	"testing"

	"bywash/api"
)

// two is a function that calls the other one, which has a block between that is not Live.
func two() api.Program {
	return api.Program{Funs: []api.Fun{
		{Arity: 0, Vars: 2, Blocks: []api.Block{
			{Live: true, Code: []api.Instr{{Id: 0, Kind: api.Input, Dst: 1}, {Id: 1, Kind: api.Call, Dst: 1, F: 1, N: 1}}},
		}},
		{Arity: 1, Vars: 1, Blocks: []api.Block{
			{Live: true, Succ: []int{0, 2}},
			{},
			{Live: true, Code: []api.Instr{{Id: 2, Kind: api.Ret}}},
		}},
	}}
}

// What is wrong is told as a fault, behind the parts that it is in: so no check does another one's work.
func TestFaults(t *testing.T) {
	for _, x := range []struct {
		spoil func(p *api.Program)
		want  fault
		told  string
	}{
		{func(p *api.Program) { p.Funs = make([]api.Fun, 7) }, badCount, "too many functions"},
		{func(p *api.Program) { p.Funs[0].Arity = -1 }, badArity, "function 0: an Arity that may not be"},
		{func(p *api.Program) { p.Funs[0].Vars = 7 }, badVars, "function 0: Vars that may not be"},
		{func(p *api.Program) { p.Funs[1].Blocks = nil }, badBlocks, "function 1: no block, or too many"},
		{func(p *api.Program) { p.Funs[1].Blocks[2] = api.Block{} }, badEnds, "function 1: the first or the last block is not Live"},
		{func(p *api.Program) { p.Funs[1].Blocks[1].Succ = []int{0} }, badEmpty, "function 1: block 1: Code or Succ of a block that is not Live"},
		{func(p *api.Program) { p.Funs[1].Blocks[0].Succ = []int{2, 0} }, badOrder, "function 1: block 0: Succ does not rise"},
		{func(p *api.Program) { p.Funs[1].Blocks[2].Succ = []int{0, 1} }, badEdge, "function 1: block 2: an edge to no block"},
		{func(p *api.Program) { p.Funs[1].Blocks[2].Code = make([]api.Instr, 17) }, badCode, "function 1: block 2: too many instructions"},
		{func(p *api.Program) { p.Funs[0].Blocks[0].Code[1].B = 1 }, badForm, "function 0: block 0: place 1: an instruction that may not be"},
		{func(p *api.Program) { p.Funs[1].Blocks[2].Code[0].A = 1 }, badVar, "function 1: block 2: place 0: no such variable"},
		{func(p *api.Program) { p.Funs[0].Blocks[0].Code[1].F = 2 }, badCall, "function 0: block 0: place 1: a Call of no function"},
		{func(p *api.Program) { p.Funs[0].Blocks[0].Code[1].F = 0 }, badArgs, "function 0: block 0: place 1: a Call of another Arity"},
		{func(p *api.Program) { p.Funs[1].Blocks[2].Code[0].Id = 0 }, badId, "an Id twice"},
	} {
		p := two()
		x.spoil(&p)
		err := wrongProgram(p)
		var found fault
		if !errors.As(err, &found) || found != x.want || err.Error() != x.told {
			t.Error(err, found, x.told)
		}
	}
	if err := wrongProgram(two()); err != nil {
		t.Error(err)
	}
}
