package wire

import (
	"iter"

	"bywash/api"
	"bywash/instr"
)

// parts are where the numbers go that an instruction of its Kind has, in order, but for N and Args, and how many bytes each has.
func parts(i *api.Instr) iter.Seq2[*int, int] {
	k := i.Kind
	return func(yield func(*int, int) bool) {
		for _, x := range []struct {
			alone api.Instr
			at    *int
			size  int
		}{
			{api.Instr{Kind: k, Dst: 1}, &i.Dst, short},
			{api.Instr{Kind: k, A: 1}, &i.A, short},
			{api.Instr{Kind: k, B: 1}, &i.B, short},
			{api.Instr{Kind: k, C: 1}, &i.C, long},
			{api.Instr{Kind: k, F: 1}, &i.F, short},
		} {
			// What an instruction has not is 0: with this part alone it may be just if its Kind has it.
			if instr.Form(x.alone) && !yield(x.at, x.size) {
				return
			}
		}
	}
}

func putProgram(p api.Program) []byte {
	b := []byte{byte(len(p.Funs))}
	for _, f := range p.Funs {
		b = append(b, byte(f.Arity), byte(f.Vars), byte(len(f.Blocks)))
		for _, k := range f.Blocks {
			b = append(b, putBlock(k)...)
		}
	}
	return b
}

func putBlock(k api.Block) []byte {
	b := []byte{0, byte(len(k.Succ))}
	if k.Live {
		b[0] = 1
	}
	for _, to := range k.Succ {
		b = append(b, byte(to))
	}
	b = append(b, byte(len(k.Code)))
	for _, i := range k.Code {
		b = append(b, putInstr(i)...)
	}
	return b
}

func putInstr(i api.Instr) []byte {
	b := []byte{byte(i.Id), byte(i.Kind)}
	for at, size := range parts(&i) {
		b = appendNumber(b, *at, size)
	}
	if i.Kind != api.Call {
		return b
	}
	b = append(b, byte(i.N))
	for _, v := range i.Args[:i.N] {
		b = append(b, byte(v))
	}
	return b
}

func getProgram(r *reader) api.Program {
	return api.Program{Funs: several(r, api.MaxFuns, getFun)}
}

// several is a list, ahead of which stands how many there are.
func several[T any](r *reader, limit int, get func(*reader) T) []T {
	var l []T
	for range r.upTo(limit) {
		l = append(l, get(r))
	}
	return l
}

func getFun(r *reader) api.Fun {
	return api.Fun{
		Arity:  r.number(short),
		Vars:   r.number(short),
		Blocks: several(r, api.MaxBlocks, getBlock),
	}
}

func getBlock(r *reader) api.Block {
	return api.Block{
		Live: r.upTo(1) == 1,
		Succ: several(r, api.MaxBlocks, getTo),
		Code: several(r, api.MaxCode, getInstr),
	}
}

func getTo(r *reader) int { return r.number(short) }

func getInstr(r *reader) api.Instr {
	i := api.Instr{Id: r.number(short), Kind: r.upTo(api.Kinds - 1)}
	for at, size := range parts(&i) {
		*at = r.number(size)
	}
	if i.Kind == api.Call {
		i.N = r.upTo(api.MaxArgs)
		for k := range i.N {
			i.Args[k] = r.number(short)
		}
	}
	return i
}
