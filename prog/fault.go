package prog

import (
	"slices"
	"strconv"

	"bywash/api"
	"bywash/instr"
)

// fault is what is wrong with a program.
type fault string

const (
	badCount  fault = "too many functions"
	badArity  fault = "an Arity that may not be"
	badVars   fault = "Vars that may not be"
	badBlocks fault = "no block, or too many"
	badEnds   fault = "the first or the last block is not Live"
	badEmpty  fault = "Code or Succ of a block that is not Live"
	badOrder  fault = "Succ does not rise"
	badEdge   fault = "an edge to no block"
	badCode   fault = "too many instructions"
	badForm   fault = "an instruction that may not be"
	badVar    fault = "no such variable"
	badCall   fault = "a Call of no function"
	badArgs   fault = "a Call of another Arity"
	badId     fault = "an Id twice"
)

// Error tells it.
func (w fault) Error() string { return string(w) }

// inPart is a fault of one part of several; so a check of a part need not know where that stands.
type inPart struct {
	part   string
	number int
	err    error
}

// Error tells the part, and what is wrong with it.
func (w inPart) Error() string {
	return w.part + " " + strconv.Itoa(w.number) + ": " + w.err.Error()
}

// Unwrap is what is wrong with the part.
func (w inPart) Unwrap() error { return w.err }

// wrongPart is the first fault of the parts of a list.
func wrongPart[T any](part string, l []T, wrong func(T) error) error {
	for k, x := range l {
		if err := wrong(x); err != nil {
			return inPart{part, k, err}
		}
	}
	return nil
}

func wrongProgram(p api.Program) error {
	if len(p.Funs) > api.MaxFuns {
		return badCount
	}
	err := wrongPart("function", p.Funs, func(f api.Fun) error { return wrongFun(p, f) })
	if err != nil {
		return err
	}
	// Behind the functions: Ids are counted of instructions that may be alone.
	if times := idTimes(p); slices.Max(times[:]) > 1 {
		return badId
	}
	return nil
}

func wrongFun(p api.Program, f api.Fun) error {
	last := len(f.Blocks) - 1
	switch {
	case f.Arity < 0 || f.Arity > api.MaxArgs:
		return badArity
	case f.Vars < f.Arity || f.Vars > api.MaxVars:
		return badVars
	case last < 0 || last >= api.MaxBlocks:
		return badBlocks
	case !f.Blocks[0].Live || !f.Blocks[last].Live:
		return badEnds
	}
	return wrongPart("block", f.Blocks, func(b api.Block) error { return wrongBlock(p, f, b) })
}

func wrongBlock(p api.Program, f api.Fun, b api.Block) error {
	if !b.Live && len(b.Code)+len(b.Succ) > 0 {
		return badEmpty
	}
	if len(b.Code) > api.MaxCode {
		return badCode
	}
	if err := wrongSucc(f, b.Succ); err != nil {
		return err
	}
	return wrongPart("place", b.Code, func(i api.Instr) error { return wrongInstr(p, f, i) })
}

func wrongSucc(f api.Fun, succ []int) error {
	for k, b := range succ {
		if k > 0 && b <= succ[k-1] {
			return badOrder
		}
		if !isLive(f.Blocks, b) {
			return badEdge
		}
	}
	return nil
}

func wrongInstr(p api.Program, f api.Fun, i api.Instr) error {
	if !instr.Form(i) {
		return badForm
	}
	for _, v := range instr.Vars(i) {
		if v >= f.Vars {
			return badVar
		}
	}
	if i.Kind != api.Call {
		return nil
	}
	if i.F >= len(p.Funs) {
		return badCall
	}
	if p.Funs[i.F].Arity != i.N {
		return badArgs
	}
	return nil
}
