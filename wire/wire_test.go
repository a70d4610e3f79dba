package wire_test

import (
	"bytes"
	"math"
	"reflect"
	"slices"
	"testing"

	"bywash/api"
	"bywash/prog"
	"bywash/wire"
)

// made is three functions: one with blocks between that are not Live, one that it calls, one without variables.
func made() api.Program {
	return api.Program{Funs: []api.Fun{
		{Arity: 1, Vars: 3, Blocks: []api.Block{
			{Live: true, Succ: []int{1, 3}, Code: []api.Instr{
				{Id: 4, Kind: api.Const, Dst: 1, C: -7},
				{Id: 0, Kind: api.Call, Dst: 2, F: 1, N: 2, Args: [3]int{0, 1}},
				{Id: 95, Kind: api.Add, Dst: 2, A: 1, B: 2},
			}},
			{Live: true, Succ: []int{1}},
			{},
			{Live: true, Code: []api.Instr{{Id: 2, Kind: api.Use, A: 2}}},
		}},
		{Arity: 2, Vars: 2, Blocks: []api.Block{{Live: true, Code: []api.Instr{{Id: 1, Kind: api.Ret, A: 1}}}}},
		{Arity: 0, Vars: 0, Blocks: []api.Block{{Live: true, Succ: []int{0}}}},
	}}
}

// madeBytes is made, written by hand.
func madeBytes() []byte {
	return []byte{
		3,
		1, 3, 4,
		1, 2, 1, 3, 3, 4, 0, 1, 255, 255, 255, 249, 0, 7, 2, 1, 2, 0, 1, 95, 3, 2, 1, 2,
		1, 1, 1, 0,
		0, 0, 0,
		1, 0, 1, 2, 8, 2,
		2, 2, 1,
		1, 0, 1, 1, 9, 1,
		0, 0, 1,
		1, 1, 0, 0,
	}
}

func changed(change func(p *api.Program)) api.Program {
	p := made()
	change(&p)
	return p
}

// funs is n functions of one block.
func funs(n int) api.Program {
	p := api.Program{}
	for range n {
		p.Funs = append(p.Funs, api.Fun{Blocks: []api.Block{{Live: true}}})
	}
	return p
}

// blocks is one function with n blocks that are Live, with edges from the first one to all.
func blocks(n int) api.Program {
	f := api.Fun{Blocks: make([]api.Block, n)}
	for b := range n {
		f.Blocks[b].Live = true
		f.Blocks[0].Succ = append(f.Blocks[0].Succ, b)
	}
	return api.Program{Funs: []api.Fun{f}}
}

// code is one function with n instructions in each of some blocks.
func code(n, times int) api.Program {
	f := api.Fun{Vars: 6}
	for b := range times {
		f.Blocks = append(f.Blocks, api.Block{Live: true})
		for k := range n {
			f.Blocks[b].Code = append(f.Blocks[b].Code, api.Instr{Id: b*n + k, Kind: api.Const, Dst: k % 6, C: b - 2})
		}
	}
	return api.Program{Funs: []api.Fun{f}}
}

// alone is an instruction in two functions, the one with three parameters; and what stands ahead of it, and behind it.
func alone(i api.Instr) (p api.Program, ahead, behind []byte) {
	p = api.Program{Funs: []api.Fun{
		{Vars: 6, Blocks: []api.Block{{Live: true, Code: []api.Instr{i}}}},
		{Arity: 3, Vars: 3, Blocks: []api.Block{{Live: true}}},
	}}
	return p, []byte{2, 0, 6, 1, 1, 0, 1}, []byte{3, 3, 1, 1, 0, 0}
}

// notSane are programs that may not be.
func notSane() []api.Program {
	return []api.Program{
		{Funs: []api.Fun{{}}},
		{Funs: make([]api.Fun, 7)},
		funs(7),
		blocks(13),
		code(17, 1),
		changed(func(p *api.Program) { p.Funs[0].Arity = -1 }),
		changed(func(p *api.Program) { p.Funs[0].Vars = 7 }),
		changed(func(p *api.Program) { p.Funs[0].Vars = 2 }),
		changed(func(p *api.Program) { p.Funs[0].Blocks[3] = api.Block{} }),
		changed(func(p *api.Program) { p.Funs[0].Blocks[2].Succ = []int{0} }),
		changed(func(p *api.Program) { p.Funs[0].Blocks[1].Succ = []int{2} }),
		changed(func(p *api.Program) { p.Funs[0].Blocks[1].Succ = []int{-1} }),
		changed(func(p *api.Program) { p.Funs[0].Blocks[1].Succ = []int{1, 1} }),
		changed(func(p *api.Program) { p.Funs[0].Blocks[0].Code[0].Id = 96 }),
		changed(func(p *api.Program) { p.Funs[0].Blocks[0].Code[0].Id = 0 }),
		changed(func(p *api.Program) { p.Funs[0].Blocks[0].Code[0].Kind = 10 }),
		changed(func(p *api.Program) { p.Funs[0].Blocks[0].Code[0].Kind = -1 }),
		changed(func(p *api.Program) { p.Funs[0].Blocks[0].Code[0].A = 1 }),
		changed(func(p *api.Program) { p.Funs[0].Blocks[0].Code[0].C = 1 << 31 }),
		changed(func(p *api.Program) { p.Funs[0].Blocks[0].Code[1].N = 4 }),
		changed(func(p *api.Program) { p.Funs[0].Blocks[0].Code[1].N = 1 }),
		changed(func(p *api.Program) { p.Funs[0].Blocks[0].Code[1].F = 3 }),
		changed(func(p *api.Program) { p.Funs[0].Blocks[0].Code[1].Args[2] = 1 }),
	}
}

// sane are programs that may be, the document's limits among them.
func sane() []api.Program {
	return []api.Program{{}, {Funs: []api.Fun{}}, made(), funs(1), funs(5), funs(6), blocks(11), blocks(12), code(15, 2), code(16, 1), code(16, 6)}
}

// told holds a program against its bytes, both ways.
func told(t *testing.T, p api.Program, want []byte) {
	t.Helper()
	if b := wire.Put(p); !bytes.Equal(b, want) {
		t.Error("Put", b, want)
	}
	if q, err := wire.Get(want); err != api.OK || !prog.Same(p, q) {
		t.Error("Get", want, q, err)
	}
}

// refused asks for an error, and no program beside it.
func refused(t *testing.T, b []byte, want api.Errno) {
	t.Helper()
	if p, err := wire.Get(b); err != want || p.Funs != nil {
		t.Error("Get", b, p, err, want)
	}
}

// P9.1, P9.2.

func TestPrograms(t *testing.T) {
	told(t, api.Program{}, []byte{0})
	told(t, api.Program{Funs: []api.Fun{}}, []byte{0})
	told(t, made(), madeBytes())
	told(t, funs(2), []byte{2, 0, 0, 1, 1, 0, 0, 0, 0, 1, 1, 0, 0})
	told(t, blocks(2), []byte{1, 0, 0, 2, 1, 2, 0, 1, 0, 1, 0, 0})
	for _, p := range sane() {
		told(t, p, wantPut(p))
	}
}

func TestKinds(t *testing.T) {
	for _, x := range []struct {
		i    api.Instr
		want []byte
	}{
		{api.Instr{Id: 9, Kind: api.Const, Dst: 5, C: 0}, []byte{9, 0, 5, 0, 0, 0, 0}},
		{api.Instr{Id: 9, Kind: api.Const, Dst: 5, C: -1}, []byte{9, 0, 5, 255, 255, 255, 255}},
		{api.Instr{Id: 9, Kind: api.Const, Dst: 5, C: api.MinConst}, []byte{9, 0, 5, 128, 0, 0, 0}},
		{api.Instr{Id: 9, Kind: api.Const, Dst: 5, C: api.MinConst + 1}, []byte{9, 0, 5, 128, 0, 0, 1}},
		{api.Instr{Id: 9, Kind: api.Const, Dst: 5, C: api.MaxConst}, []byte{9, 0, 5, 127, 255, 255, 255}},
		{api.Instr{Id: 9, Kind: api.Const, Dst: 5, C: 255}, []byte{9, 0, 5, 0, 0, 0, 255}},
		{api.Instr{Id: 9, Kind: api.Const, Dst: 5, C: 0x01020304}, []byte{9, 0, 5, 1, 2, 3, 4}},
		{api.Instr{Id: 9, Kind: api.Copy, Dst: 5, A: 4}, []byte{9, 1, 5, 4}},
		{api.Instr{Id: 9, Kind: api.Neg, Dst: 5, A: 4}, []byte{9, 2, 5, 4}},
		{api.Instr{Id: 9, Kind: api.Add, Dst: 5, A: 4, B: 3}, []byte{9, 3, 5, 4, 3}},
		{api.Instr{Id: 9, Kind: api.Sub, Dst: 5, A: 4, B: 3}, []byte{9, 4, 5, 4, 3}},
		{api.Instr{Id: 9, Kind: api.Mul, Dst: 5, A: 4, B: 3}, []byte{9, 5, 5, 4, 3}},
		{api.Instr{Id: 9, Kind: api.Input, Dst: 5}, []byte{9, 6, 5}},
		{api.Instr{Id: 9, Kind: api.Call, Dst: 5}, []byte{9, 7, 5, 0, 0}},
		{api.Instr{Id: 9, Kind: api.Call, Dst: 5, F: 1, N: 3, Args: [3]int{4, 3, 2}}, []byte{9, 7, 5, 1, 3, 4, 3, 2}},
		{api.Instr{Id: 9, Kind: api.Use, A: 4}, []byte{9, 8, 4}},
		{api.Instr{Id: 95, Kind: api.Ret, A: 4}, []byte{95, 9, 4}},
		{api.Instr{Id: 0, Kind: api.Ret, A: 0}, []byte{0, 9, 0}},
	} {
		p, ahead, behind := alone(x.i)
		told(t, p, slices.Concat(ahead, x.want, behind))
	}
}

func TestCalls(t *testing.T) {
	for n := range 4 {
		p := api.Program{Funs: []api.Fun{{Arity: n, Vars: 6, Blocks: []api.Block{{Live: true, Code: []api.Instr{{Kind: api.Call, Dst: 1, N: n}}}}}}}
		args := []byte{5, 3, 4}[:n]
		for k, v := range args {
			p.Funs[0].Blocks[0].Code[0].Args[k] = int(v)
		}
		told(t, p, slices.Concat([]byte{1, byte(n), 6, 1, 1, 0, 1, 0, 7, 1, 0, byte(n)}, args))
	}
}

func TestNotSane(t *testing.T) {
	for k, p := range notSane() {
		if prog.Sane(p) {
			t.Error("may be", k)
		}
		if b := wire.Put(p); len(b) != 0 {
			t.Error("Put", k, b)
		}
		if b := wire.PutScript(p, []api.Step{{Ask: true}}); !bytes.Equal(b, []byte{0, 0, 1, 0, 0, 0, 0, 0, 0}) {
			t.Error("PutScript", k, b)
		}
	}
}

func TestShort(t *testing.T) {
	for _, p := range sane() {
		b := wantPut(p)
		for n := range b {
			refused(t, b[:n], api.ErrShort)
		}
	}
	refused(t, nil, api.ErrShort)
}

func TestLeft(t *testing.T) {
	for _, p := range sane() {
		for _, more := range [][]byte{{0}, {1}, {255}, {0, 0, 0}} {
			refused(t, slices.Concat(wantPut(p), more), api.ErrForm)
		}
	}
}

func TestCounts(t *testing.T) {
	// What stands ahead of a number that has a limit.
	for _, x := range []struct {
		ahead []byte
		limit byte
	}{
		{nil, 6},
		{[]byte{1, 0, 0}, 12},
		{[]byte{2, 0, 0, 1, 1, 0, 0, 0, 0}, 12},
		{[]byte{1, 0, 0, 1}, 1},
		{[]byte{1, 0, 0, 2, 1, 0, 0}, 1},
		{[]byte{1, 0, 0, 1, 1}, 12},
		{[]byte{1, 0, 0, 1, 0}, 12},
		{[]byte{1, 0, 0, 1, 1, 0}, 16},
		{[]byte{1, 0, 0, 1, 0, 1, 0}, 16},
		{[]byte{1, 0, 1, 1, 1, 0, 1, 0}, 9},
		{[]byte{1, 0, 1, 1, 1, 0, 2, 0, 6, 0, 1}, 9},
		{[]byte{1, 0, 1, 1, 1, 0, 1, 0, 7, 0, 0}, 3},
		{[]byte{1, 0, 1, 1, 1, 0, 1, 200, 7, 200, 200}, 3},
	} {
		for n := range 256 {
			b := append(slices.Clone(x.ahead), byte(n))
			want := api.ErrForm
			if n <= int(x.limit) {
				_, want = wantGet(b)
			}
			if _, err := wire.Get(b); err != want {
				t.Error("Get", b, err, want)
			}
			if n > int(x.limit) {
				// What comes behind it is not looked at.
				refused(t, append(b, 1, 0, 0, 1, 1, 0, 0), api.ErrForm)
			} else if want == api.ErrForm {
				t.Error("at most the limit", b, want)
			}
		}
	}
}

func TestAtTheLimits(t *testing.T) {
	// One more of each than may be, with all that belongs to it.
	for _, p := range []api.Program{funs(7), blocks(13), code(17, 1), code(17, 2)} {
		refused(t, wantPut(p), api.ErrForm)
	}
	edges := []byte{1, 0, 0, 12, 1, 12, 0, 1, 2, 3, 4, 5, 6, 7, 8, 9, 10, 11, 0}
	rest := slices.Repeat([]byte{1, 0, 0}, 11)
	told(t, blocks(12), slices.Concat(edges, rest))
	// As many edges, but one to a block that is not there; one edge more.
	edges[17] = 12
	refused(t, slices.Concat(edges, rest), api.ErrProgram)
	edges[5] = 13
	refused(t, slices.Concat(edges, []byte{0}, rest), api.ErrForm)
	four := []byte{1, 0, 1, 1, 1, 0, 1, 0, 7, 0, 0, 4, 0, 0, 0, 0}
	refused(t, four, api.ErrForm)
}

func TestFirstError(t *testing.T) {
	for _, x := range []struct {
		b    []byte
		want api.Errno
	}{
		// A number too great ahead of a byte that is missing, and the other way.
		{[]byte{7}, api.ErrForm},
		{[]byte{1, 0, 0}, api.ErrShort},
		{[]byte{1, 0, 0, 13}, api.ErrForm},
		{[]byte{1, 0, 0, 12, 2}, api.ErrForm},
		{[]byte{1, 0, 0, 12, 1, 12, 13}, api.ErrShort},
		{[]byte{1, 0, 0, 1, 0, 0, 16, 0}, api.ErrShort},
		{[]byte{1, 0, 0, 1, 0, 0, 16, 0, 10}, api.ErrForm},
		{[]byte{1, 0, 0, 1, 1, 0, 1, 0, 7, 9, 9, 4}, api.ErrForm},
		{[]byte{1, 0, 0, 1, 1, 0, 1, 0, 7, 9, 9, 3, 0, 0}, api.ErrShort},
		// A program that may not be: with a byte missing, too great, left.
		{[]byte{1, 4, 0, 1, 1, 0}, api.ErrShort},
		{[]byte{1, 4, 0, 1, 1, 0, 17}, api.ErrForm},
		{[]byte{1, 4, 0, 1, 1, 0, 0, 0}, api.ErrForm},
		{[]byte{1, 4, 0, 1, 1, 0, 0}, api.ErrProgram},
		{[]byte{1, 0, 0, 0, 0}, api.ErrForm},
		{[]byte{1, 0, 0, 0}, api.ErrProgram},
		{[]byte{0, 255}, api.ErrForm},
	} {
		refused(t, x.b, x.want)
	}
}

func TestNoProgram(t *testing.T) {
	whole := []byte{1, 2, 3, 2, 1, 1, 1, 2, 0, 1, 2, 0, 1, 7, 2, 0, 2, 0, 1, 1, 0, 0}
	if _, err := wire.Get(whole); err != api.OK {
		t.Fatal(err)
	}
	for at, l := range map[int][]byte{
		1: {1, 3, 4, 255}, 2: {1, 2, 7, 255}, 4: {0}, 19: {0}, 6: {2, 254, 255},
		8: {1, 96, 255}, 12: {0, 96, 255}, 10: {3, 255}, 11: {3, 255}, 14: {3, 255}, 15: {1, 255}, 17: {3, 255}, 18: {3, 255},
	} {
		for _, n := range l {
			b := slices.Clone(whole)
			b[at] = n
			refused(t, b, api.ErrProgram)
		}
	}
	refused(t, []byte{1, 0, 0, 2, 1, 0, 0, 0, 0, 0}, api.ErrProgram)
	refused(t, []byte{1, 0, 0, 3, 1, 0, 0, 0, 1, 0, 0, 1, 0, 0}, api.ErrProgram)
	refused(t, []byte{1, 0, 0, 2, 1, 2, 1, 0, 0, 1, 0, 0}, api.ErrProgram)
	refused(t, []byte{1, 0, 0, 2, 1, 2, 1, 1, 0, 1, 0, 0}, api.ErrProgram)
}

// The chapter's words of programs, told apart from the calls.

// has is what each kind has, a letter each.
var has = [api.Kinds]string{"DC", "DA", "DA", "DAB", "DAB", "DAB", "D", "DFN", "A", "A"}

// wantPut is the bytes of all that a program has, also of one that may not be for how much it has.
func wantPut(p api.Program) []byte {
	b := []byte{byte(len(p.Funs))}
	add := func(l ...int) {
		for _, n := range l {
			b = append(b, byte(n))
		}
	}
	for _, f := range p.Funs {
		add(f.Arity, f.Vars, len(f.Blocks))
		for _, k := range f.Blocks {
			add(map[bool]int{true: 1}[k.Live], len(k.Succ))
			add(k.Succ...)
			add(len(k.Code))
			for _, i := range k.Code {
				add(i.Id, i.Kind)
				for _, part := range has[i.Kind] {
					switch part {
					case 'D':
						add(i.Dst)
					case 'A':
						add(i.A)
					case 'B':
						add(i.B)
					case 'C':
						u := uint32(i.C)
						b = append(b, byte(u>>24), byte(u>>16), byte(u>>8), byte(u))
					case 'F':
						add(i.F)
					case 'N':
						add(i.N)
						add(i.Args[:i.N]...)
					}
				}
			}
		}
	}
	return b
}

// cursor is a place in bytes.
type cursor struct {
	b  []byte
	at int
}

func (c *cursor) one() int {
	if c.at >= len(c.b) {
		panic(api.ErrShort)
	}
	c.at++
	return int(c.b[c.at-1])
}

func (c *cursor) most(limit int) int {
	n := c.one()
	if n > limit {
		panic(api.ErrForm)
	}
	return n
}

func (c *cursor) four() int {
	n := ((c.one()*256+c.one())*256+c.one())*256 + c.one()
	if n > math.MaxInt32 {
		n -= 1 << 32
	}
	return n
}

func wantGet(b []byte) (p api.Program, err api.Errno) {
	defer func() {
		if e := recover(); e != nil {
			p, err = api.Program{}, e.(api.Errno)
		}
	}()
	c := &cursor{b: b}
	p.Funs = make([]api.Fun, c.most(6))
	for f := range p.Funs {
		fun := &p.Funs[f]
		fun.Arity, fun.Vars = c.one(), c.one()
		fun.Blocks = make([]api.Block, c.most(12))
		for k := range fun.Blocks {
			block := &fun.Blocks[k]
			block.Live = c.most(1) == 1
			block.Succ = make([]int, c.most(12))
			for s := range block.Succ {
				block.Succ[s] = c.one()
			}
			block.Code = make([]api.Instr, c.most(16))
			for i := range block.Code {
				wantInstr(c, &block.Code[i])
			}
		}
	}
	if c.at != len(b) {
		panic(api.ErrForm)
	}
	if !prog.Sane(p) {
		panic(api.ErrProgram)
	}
	return p, api.OK
}

func wantInstr(c *cursor, i *api.Instr) {
	i.Id, i.Kind = c.one(), c.most(9)
	for _, part := range has[i.Kind] {
		switch part {
		case 'D':
			i.Dst = c.one()
		case 'A':
			i.A = c.one()
		case 'B':
			i.B = c.one()
		case 'C':
			i.C = c.four()
		case 'F':
			i.F = c.one()
		case 'N':
			i.N = c.most(3)
			for k := range i.N {
				i.Args[k] = c.one()
			}
		}
	}
}

// wantSteps takes bytes apart by where they stand: there are always enough behind the end, all 0.
func wantSteps(b []byte) []api.Step {
	var l []api.Step
	for len(b) > 0 && len(l) < 400 {
		w := append(slices.Clone(b[:min(len(b), 21)]), make([]byte, 21)...)
		n := func(k int) int {
			if w[k] == 255 {
				return -1
			}
			return int(w[k])
		}
		s, size := api.Step{Ask: w[0]&1 == 1}, 7
		switch {
		case s.Ask:
			s.Q = api.Query{Op: n(1), F: n(2), B: n(3), To: n(4), Pos: n(5), V: n(6)}
		default:
			s.E = api.Edit{Op: n(1), F: n(2), B: n(3), To: n(4), Other: n(5), Pos: n(6)}
		}
		if !s.Ask && w[1] == 6 {
			c := &cursor{b: w, at: 12}
			s.E.I = api.Instr{Id: n(7), Kind: n(8), Dst: n(9), A: n(10), B: n(11), C: c.four(), F: n(16), N: n(17), Args: [3]int{n(18), n(19), n(20)}}
			size = 21
		}
		l, b = append(l, s), b[min(size, len(b)):]
	}
	return l
}

// wantFits asks each number.
func wantFits(s api.Step) bool {
	q, e, i := s.Q, s.E, s.E.I
	l := []int{q.Op, q.F, q.B, q.To, q.Pos, q.V, e.Op, e.F, e.B, e.To, e.Other, e.Pos, i.Id, i.Kind, i.Dst, i.A, i.B, i.F, i.N, i.Args[0], i.Args[1], i.Args[2]}
	for _, n := range l {
		if n < -1 || n > 254 {
			return false
		}
	}
	switch {
	case s.Ask:
		return e == api.Edit{}
	case q != api.Query{}:
		return false
	case e.Op != 6:
		return i == api.Instr{}
	}
	return i.C >= -2147483648 && i.C <= 2147483647
}

// wantStep is the bytes of one that fits.
func wantStep(s api.Step) []byte {
	q, e, i := s.Q, s.E, s.E.I
	l := []int{0, e.Op, e.F, e.B, e.To, e.Other, e.Pos}
	if s.Ask {
		l = []int{1, q.Op, q.F, q.B, q.To, q.Pos, q.V}
	}
	if e.Op == 6 {
		l = append(l, i.Id, i.Kind, i.Dst, i.A, i.B, i.C>>24, i.C>>16, i.C>>8, i.C, i.F, i.N, i.Args[0], i.Args[1], i.Args[2])
	}
	var b []byte
	for _, n := range l {
		b = append(b, byte(n))
	}
	return b
}

// numbersOf tells numbers, the same ones each time.
type numbersOf struct{ seed uint64 }

func (r *numbersOf) below(n int) int {
	r.seed = r.seed*6364136223846793005 + 1442695040888963407
	return int(r.seed>>33) % n
}

// rolled is a program that may be, if its functions' sizes suit its calls.
func rolled(r *numbersOf) api.Program {
	p, id := api.Program{Funs: make([]api.Fun, r.below(7))}, r.below(50)
	for f := range p.Funs {
		vars := 1 + r.below(6)
		p.Funs[f] = api.Fun{Arity: r.below(min(vars, 3) + 1), Vars: vars, Blocks: make([]api.Block, 1+r.below(12))}
	}
	for f := range p.Funs {
		fun := &p.Funs[f]
		last := len(fun.Blocks) - 1
		for b := range fun.Blocks {
			fun.Blocks[b].Live = b == 0 || b == last || r.below(4) > 0
		}
		for b := range fun.Blocks {
			k := &fun.Blocks[b]
			for to := range fun.Blocks {
				if k.Live && fun.Blocks[to].Live && r.below(3) == 0 {
					k.Succ = append(k.Succ, to)
				}
			}
			for k.Live && len(k.Code) < 16 && id < 96 && r.below(3) > 0 {
				k.Code = append(k.Code, rolledInstr(r, p, fun.Vars, id))
				id++
			}
		}
	}
	return p
}

func rolledInstr(r *numbersOf, p api.Program, vars, id int) api.Instr {
	i := api.Instr{Id: id, Kind: r.below(10)}
	for _, part := range has[i.Kind] {
		switch part {
		case 'D':
			i.Dst = r.below(vars)
		case 'A':
			i.A = r.below(vars)
		case 'B':
			i.B = r.below(vars)
		case 'C':
			i.C = []int{api.MinConst, -1, 0, 1, api.MaxConst, r.below(1 << 31), -r.below(1 << 31)}[r.below(7)]
		case 'F':
			i.F = r.below(len(p.Funs))
		case 'N':
			i.N = p.Funs[i.F].Arity
			for k := range i.N {
				i.Args[k] = r.below(vars)
			}
		}
	}
	return i
}

// checkGet holds what is got against what is wanted.
func checkGet(t *testing.T, b []byte) api.Errno {
	t.Helper()
	q, want := wantGet(b)
	p, err := wire.Get(b)
	if err != want || !prog.Same(p, q) || err != api.OK && p.Funs != nil {
		t.Fatal("Get", b, err, want)
	}
	return err
}

func TestManyPrograms(t *testing.T) {
	r, seen := &numbersOf{3}, map[api.Errno]int{}
	for range 400 {
		p := rolled(r)
		if !prog.Sane(p) {
			t.Fatal("not made as wanted")
		}
		b := wantPut(p)
		told(t, p, b)
		for range 40 {
			c := slices.Clone(b)
			at := r.below(len(c))
			// Small numbers more often: they are read on.
			n := byte([]int{r.below(256), r.below(4), r.below(16), 255}[r.below(4)])
			switch r.below(4) {
			case 0:
				c = c[:at]
			case 1:
				c = slices.Delete(c, at, at+1)
			case 2:
				c = slices.Insert(c, at, n)
			case 3:
				c[at] = n
			}
			seen[checkGet(t, c)]++
		}
	}
	for _, err := range []api.Errno{api.OK, api.ErrForm, api.ErrShort, api.ErrProgram} {
		if seen[err] < 100 {
			t.Error("too few of", err, seen)
		}
	}
}

func TestEachByte(t *testing.T) {
	b := madeBytes()
	for at, was := range b {
		for n := range 256 {
			b[at] = byte(n)
			checkGet(t, b)
		}
		b[at] = was
	}
}

func TestSmallTexts(t *testing.T) {
	for n := range 7 {
		for _, b := range texts(n, []byte{0, 1, 2, 7, 255}) {
			checkGet(t, b)
			checkSteps(t, b)
			checkScript(t, b)
		}
	}
}

// texts are all of n bytes.
func texts(n int, of []byte) [][]byte {
	if n == 0 {
		return [][]byte{nil}
	}
	var l [][]byte
	for _, b := range texts(n-1, of) {
		for _, c := range of {
			l = append(l, append(slices.Clone(b), c))
		}
	}
	return l
}

// P9.3.

func checkSteps(t *testing.T, b []byte) {
	t.Helper()
	if l := wire.GetSteps(b); !slices.Equal(l, wantSteps(b)) {
		t.Fatal("GetSteps", len(b), l)
	}
}

func TestGetSteps(t *testing.T) {
	for _, x := range []struct {
		b    []byte
		want []api.Step
	}{
		{nil, nil},
		{[]byte{}, nil},
		{[]byte{0}, []api.Step{{}}},
		{[]byte{1}, []api.Step{{Ask: true}}},
		{[]byte{2}, []api.Step{{}}},
		{[]byte{3}, []api.Step{{Ask: true}}},
		{[]byte{254}, []api.Step{{}}},
		{[]byte{255}, []api.Step{{Ask: true}}},
		{[]byte{255, 255}, []api.Step{{Ask: true, Q: api.Query{Op: -1}}}},
		{[]byte{254, 254}, []api.Step{{E: api.Edit{Op: 254}}}},
		{[]byte{1, 2, 3, 4, 5, 6, 7}, []api.Step{{Ask: true, Q: api.Query{Op: 2, F: 3, B: 4, To: 5, Pos: 6, V: 7}}}},
		{[]byte{1, 6, 3, 4, 5, 6, 7, 8}, []api.Step{{Ask: true, Q: api.Query{Op: 6, F: 3, B: 4, To: 5, Pos: 6, V: 7}}, {}}},
		{[]byte{0, 2, 3, 4, 5, 6, 7}, []api.Step{{E: api.Edit{Op: 2, F: 3, B: 4, To: 5, Other: 6, Pos: 7}}}},
		{[]byte{0, 7, 3, 4, 5, 6, 7, 9}, []api.Step{{E: api.Edit{Op: 7, F: 3, B: 4, To: 5, Other: 6, Pos: 7}}, {Ask: true}}},
		{[]byte{0, 6, 3, 4, 5, 6, 7}, []api.Step{{E: api.Edit{Op: 6, F: 3, B: 4, To: 5, Other: 6, Pos: 7}}}},
		{[]byte{0, 6, 3, 4, 5, 6, 7, 9}, []api.Step{{E: api.Edit{Op: 6, F: 3, B: 4, To: 5, Other: 6, Pos: 7, I: api.Instr{Id: 9}}}}},
		{
			[]byte{4, 6, 0, 0, 0, 0, 0, 10, 20, 30, 40, 50, 1, 2, 3, 4, 60, 70, 80, 90, 255, 1},
			[]api.Step{{E: api.Edit{Op: 6, I: api.Instr{Id: 10, Kind: 20, Dst: 30, A: 40, B: 50, C: 0x01020304, F: 60, N: 70, Args: [3]int{80, 90, -1}}}}, {Ask: true}},
		},
		// Of four bytes those that are missing are 0, the lowest ones.
		{[]byte{0, 6, 0, 0, 0, 0, 0, 0, 0, 0, 0, 0, 255}, []api.Step{{E: api.Edit{Op: 6, I: api.Instr{C: -1 << 24}}}}},
		{[]byte{0, 6, 0, 0, 0, 0, 0, 0, 0, 0, 0, 0, 127, 255}, []api.Step{{E: api.Edit{Op: 6, I: api.Instr{C: 0x7fff0000}}}}},
	} {
		if l := wire.GetSteps(x.b); !slices.Equal(l, x.want) {
			t.Error(x.b, l)
		}
		checkSteps(t, x.b)
	}
}

// Of each byte of a step: what it is where the step ends there, and as each number.
func TestEachByteOfSteps(t *testing.T) {
	for _, b := range [][]byte{
		{1, 2, 3, 4, 5, 6, 7},
		{0, 5, 3, 4, 5, 6, 7},
		{0, 6, 3, 4, 5, 6, 7, 8, 9, 10, 11, 12, 130, 14, 15, 16, 17, 18, 19, 20, 21},
	} {
		for n := range len(b) + 1 {
			checkSteps(t, b[:n])
		}
		three := slices.Concat(b, b, b)
		for at := range b {
			for n := range 256 {
				one := slices.Clone(b)
				one[at] = byte(n)
				checkSteps(t, one)
				three[len(b)+at] = byte(n)
				checkSteps(t, three)
			}
			three[len(b)+at] = b[at]
		}
	}
}

func TestFirstByte(t *testing.T) {
	for n := range 256 {
		l := wire.GetSteps([]byte{byte(n), 6, 0, 0, 0, 0, 9, 1})
		want := []api.Step{{E: api.Edit{Op: 6, Pos: 9, I: api.Instr{Id: 1}}}}
		if n%2 == 1 {
			want = []api.Step{{Ask: true, Q: api.Query{Op: 6, V: 9}}, {Ask: true}}
		}
		if !slices.Equal(l, want) {
			t.Error(n, l)
		}
	}
}

func TestManySteps(t *testing.T) {
	for n, want := range map[int]int{399: 399, 400: 400, 401: 400, 500: 400, 5000: 400} {
		for _, size := range []int{1, 7, 21} {
			one := []byte{0, 6}
			if size < 21 {
				one = []byte{1, 3}
			}
			// The last one has a byte alone.
			b := bytes.Repeat(append(one, make([]byte, max(size, 7)-2)...), n-1)
			b = append(b, 1)
			l := wire.GetSteps(b)
			if len(l) != want || n <= 400 && l[want-1] != (api.Step{Ask: true}) || l[0].Ask == (size == 21) {
				t.Error(n, size, len(l))
			}
			checkSteps(t, b)
		}
	}
}

// P9.4.

// spoiled is a step that has a number at one of its places.
func spoiled(s api.Step, part, n int) api.Step {
	q, e, i := &s.Q, &s.E, &s.E.I
	*[]*int{&q.Op, &q.F, &q.B, &q.To, &q.Pos, &q.V, &e.Op, &e.F, &e.B, &e.To, &e.Other, &e.Pos, &i.Id, &i.Kind, &i.Dst, &i.A, &i.B, &i.C, &i.F, &i.N, &i.Args[0], &i.Args[1], &i.Args[2]}[part] = n
	return s
}

const (
	ofQuery = 6
	ofEdit  = 12
	ofAll   = 23
	theOp   = 6
	theC    = 17
)

func checkFits(t *testing.T, s api.Step) {
	t.Helper()
	want := wantFits(s)
	if wire.Fits(s) != want {
		t.Fatal("Fits", s, want)
	}
	b := wire.PutSteps([]api.Step{s})
	if !want {
		if len(b) != 0 {
			t.Fatal("PutSteps", s, b)
		}
		return
	}
	if !bytes.Equal(b, wantStep(s)) || !slices.Equal(wire.GetSteps(b), []api.Step{s}) {
		t.Fatal("PutSteps", s, b)
	}
}

func ask() api.Step { return api.Step{Ask: true, Q: api.Query{Op: 2, F: 1, B: 3, To: 4, Pos: 5, V: 6}} }

func rewire() api.Step {
	return api.Step{E: api.Edit{Op: api.Rewire, F: 1, B: 2, To: 3, Other: 4, Pos: 5}}
}

func insert() api.Step {
	s := rewire()
	s.E.Op = api.Insert
	s.E.I = api.Instr{Id: 9, Kind: 8, Dst: 7, A: 6, B: 5, C: 1000, F: 4, N: 3, Args: [3]int{2, 1, 10}}
	return s
}

func TestFits(t *testing.T) {
	for _, s := range []api.Step{ask(), rewire(), insert(), {}, {Ask: true}, {E: api.Edit{Op: 6}}} {
		if !wire.Fits(s) {
			t.Error("does not fit", s)
		}
		checkFits(t, s)
		for part := range ofAll {
			for n, fits := range map[int]bool{-2: false, -1: true, 0: true, 254: true, 255: false, 256: false} {
				x := spoiled(s, part, n)
				checkFits(t, x)
				mine := map[bool]int{true: part, false: part - ofQuery}[s.Ask]
				if part != theOp && part != theC && 0 <= mine && mine < ofQuery && wire.Fits(x) != fits {
					t.Error(part, n, "of", s)
				}
			}
		}
	}
}

func TestFitsConst(t *testing.T) {
	for n, want := range map[int]bool{
		api.MinConst - 1: false, api.MinConst: true, -256: true, -1: true, 0: true, 255: true, api.MaxConst: true, api.MaxConst + 1: false,
		1<<32 - 1: false, 1 << 32: false, math.MinInt: false, math.MaxInt: false,
	} {
		s := spoiled(insert(), theC, n)
		if wire.Fits(s) != want {
			t.Error(n, !want)
		}
		checkFits(t, s)
	}
}

// A step with one part of the other kind, and an edit that is no Insert with one part of I.
func TestPartsOfOthers(t *testing.T) {
	for part := range ofAll {
		for _, n := range []int{-1, 1, 2, 6, 254, 300} {
			if part >= ofQuery && wire.Fits(spoiled(ask(), part, n)) {
				t.Error("an ask with", part, n)
			}
			if part < ofQuery && (wire.Fits(spoiled(rewire(), part, n)) || wire.Fits(spoiled(insert(), part, n))) {
				t.Error("an edit with", part, n)
			}
			if part >= ofEdit && wire.Fits(spoiled(rewire(), part, n)) {
				t.Error("no Insert with", part, n)
			}
		}
	}
	for op := -1; op < 255; op++ {
		s := spoiled(insert(), theOp, op)
		if wire.Fits(s) != (op == api.Insert) {
			t.Error("an edit of I", op)
		}
		s.E.I = api.Instr{}
		if !wire.Fits(s) {
			t.Error("an edit", op)
		}
		checkFits(t, api.Step{Ask: true, Q: api.Query{Op: op, V: op}})
	}
}

// Every pair of parts with numbers at the edges.
func TestManyFits(t *testing.T) {
	edges := []int{math.MinInt, api.MinConst - 1, -256, -2, -1, 0, 6, 254, 255, 256, 262, api.MaxConst + 1, math.MaxInt}
	for _, s := range []api.Step{{}, {Ask: true}, ask(), rewire(), insert()} {
		for one := range ofAll {
			for two := range one {
				for _, n := range edges {
					for _, m := range edges {
						checkFits(t, spoiled(spoiled(s, one, n), two, m))
					}
				}
			}
		}
	}
}

func TestPutSteps(t *testing.T) {
	far := spoiled(ask(), 0, 255)
	l := []api.Step{far, ask(), far, spoiled(insert(), theC, 1<<31), insert(), {Q: api.Query{V: 1}}, rewire(), spoiled(rewire(), theC, 1)}
	want := []byte{
		1, 2, 1, 3, 4, 5, 6,
		0, 6, 1, 2, 3, 4, 5, 9, 8, 7, 6, 5, 0, 0, 3, 232, 4, 3, 2, 1, 10,
		0, 5, 1, 2, 3, 4, 5,
	}
	if b := wire.PutSteps(l); !bytes.Equal(b, want) {
		t.Error(b)
	}
	if got := wire.GetSteps(want); !slices.Equal(got, []api.Step{ask(), insert(), rewire()}) {
		t.Error(got)
	}
	for _, l := range [][]api.Step{nil, {}, {far}, {far, far}} {
		if b := wire.PutSteps(l); len(b) != 0 {
			t.Error(b)
		}
	}
	// All are put, also those that are not got again.
	if b := wire.PutSteps(slices.Repeat([]api.Step{insert()}, 450)); len(b) != 450*21 || len(wire.GetSteps(b)) != 400 {
		t.Error(len(b))
	}
}

// P9.5.

func checkScript(t *testing.T, b []byte) {
	t.Helper()
	var of, behind []byte
	if len(b) >= 2 {
		of, behind = b[2:], nil
		if n := int(b[0])*256 + int(b[1]); n < len(of) {
			of, behind = of[:n], of[n:]
		}
	}
	q, want := wantGet(of)
	p, l, err := wire.GetScript(b)
	if err != want || !prog.Same(p, q) || err != api.OK && p.Funs != nil || !slices.Equal(l, wantSteps(behind)) {
		t.Fatal("GetScript", b, err, want, l)
	}
}

func TestPutScript(t *testing.T) {
	l := []api.Step{ask(), {Q: api.Query{V: 1}}, rewire()}
	steps := []byte{1, 2, 1, 3, 4, 5, 6, 0, 5, 1, 2, 3, 4, 5}
	for _, x := range []struct {
		p    api.Program
		l    []api.Step
		want []byte
	}{
		{api.Program{}, nil, []byte{0, 1, 0}},
		{api.Program{}, l, slices.Concat([]byte{0, 1, 0}, steps)},
		{made(), nil, slices.Concat([]byte{0, 57}, madeBytes())},
		{made(), l, slices.Concat([]byte{0, 57}, madeBytes(), steps)},
		{funs(7), nil, []byte{0, 0}},
		{funs(7), l, slices.Concat([]byte{0, 0}, steps)},
		{code(16, 6), l, slices.Concat([]byte{2, 182}, wantPut(code(16, 6)), steps)},
	} {
		b := wire.PutScript(x.p, x.l)
		if !bytes.Equal(b, x.want) {
			t.Error(b, x.want)
		}
		checkScript(t, b)
	}
}

func TestGetScript(t *testing.T) {
	for _, x := range []struct {
		b    []byte
		p    api.Program
		l    []api.Step
		want api.Errno
	}{
		{nil, api.Program{}, nil, api.ErrShort},
		{[]byte{0}, api.Program{}, nil, api.ErrShort},
		{[]byte{1}, api.Program{}, nil, api.ErrShort},
		{[]byte{255}, api.Program{}, nil, api.ErrShort},
		{[]byte{0, 0}, api.Program{}, nil, api.ErrShort},
		{[]byte{0, 1}, api.Program{}, nil, api.ErrShort},
		{[]byte{255, 255}, api.Program{}, nil, api.ErrShort},
		{[]byte{0, 1, 0}, api.Program{}, nil, api.OK},
		// More than there are: all are the program's.
		{[]byte{0, 2, 0}, api.Program{}, nil, api.OK},
		{[]byte{1, 0, 0}, api.Program{}, nil, api.OK},
		{[]byte{255, 255, 0, 1}, api.Program{}, nil, api.ErrForm},
		{[]byte{0, 9, 7, 1}, api.Program{}, nil, api.ErrForm},
		// Fewer than the program's: the steps are told, beside the error.
		{[]byte{0, 0, 1}, api.Program{}, []api.Step{{Ask: true}}, api.ErrShort},
		{[]byte{0, 3, 1, 0, 0, 1, 1}, api.Program{}, []api.Step{{Ask: true, Q: api.Query{Op: 1}}}, api.ErrShort},
		{[]byte{0, 1, 7, 1, 3}, api.Program{}, []api.Step{{Ask: true, Q: api.Query{Op: 3}}}, api.ErrForm},
		{[]byte{0, 4, 1, 0, 0, 0, 0, 3}, api.Program{}, []api.Step{{E: api.Edit{Op: 3}}}, api.ErrProgram},
		{[]byte{0, 7, 1, 0, 0, 1, 1, 0, 0, 2, 7}, funs(1), []api.Step{{E: api.Edit{Op: 7}}}, api.OK},
	} {
		p, l, err := wire.GetScript(x.b)
		if err != x.want || !prog.Same(p, x.p) || !slices.Equal(l, x.l) {
			t.Error(x.b, p, l, err)
		}
		checkScript(t, x.b)
	}
}

func TestLengths(t *testing.T) {
	steps := wire.PutSteps([]api.Step{ask(), insert(), rewire()})
	for _, p := range []api.Program{{}, made(), code(16, 3)} {
		b := wire.PutScript(p, []api.Step{ask(), insert(), rewire()})
		size := len(b) - 2 - len(steps)
		for n := range b {
			checkScript(t, b[:n])
		}
		for n := range len(b) + 5 {
			b[0], b[1] = byte(n>>8), byte(n)
			checkScript(t, b)
			if _, _, err := wire.GetScript(b); (err == api.OK) != (n == size) {
				t.Error(n, size, err)
			}
		}
	}
}

// P9.6.

func rolledStep(r *numbersOf) api.Step {
	s := []api.Step{{}, {Ask: true}, ask(), rewire(), insert()}[r.below(5)]
	for range r.below(4) {
		s = spoiled(s, r.below(ofAll), []int{-2, -1, 0, r.below(255), r.below(300)}[r.below(5)])
	}
	return s
}

func TestGotAgain(t *testing.T) {
	r := &numbersOf{5}
	for range 300 {
		p := rolled(r)
		var l, fits []api.Step
		var want []byte
		for range r.below(30) {
			s := rolledStep(r)
			l = append(l, s)
			if wantFits(s) {
				fits, want = append(fits, s), append(want, wantStep(s)...)
			}
		}
		if b := wire.PutSteps(l); !bytes.Equal(b, want) {
			t.Fatal(b, want)
		}
		b := wire.PutScript(p, l)
		q, m, err := wire.GetScript(b)
		if err != api.OK || !prog.Same(p, q) || !slices.Equal(m, fits) {
			t.Fatal(err, m, fits)
		}
		if c := wire.PutScript(q, m); !bytes.Equal(b, c) {
			t.Fatal(b, c)
		}
	}
}

func TestEveryText(t *testing.T) {
	r := &numbersOf{11}
	for range 20000 {
		b := make([]byte, r.below(80))
		for k := range b {
			b[k] = byte([]int{r.below(256), r.below(8), r.below(2), 255}[r.below(4)])
		}
		if len(b) > 1 && r.below(4) > 0 {
			b[0] = 0
		}
		checkGet(t, b)
		checkSteps(t, b)
		checkScript(t, b)
	}
}

// P1, R3: every call at all arguments; what is handed in stays.

// roomy is l with room behind its end, in which something stands.
func roomy[T any](l []T, behind T) []T {
	return append(slices.Clone(l), slices.Repeat([]T{behind}, 40)...)[:len(l)]
}

// wide is l, and what stands behind its end.
func wide[T any](l []T) []T { return slices.Clone(l[:cap(l)]) }

// roomyProgram is p, with room behind all of its lists.
func roomyProgram(p api.Program) api.Program {
	q := api.Program{Funs: roomy(p.Funs, api.Fun{Vars: 3})}
	for f := range q.Funs {
		q.Funs[f].Blocks = roomy(q.Funs[f].Blocks, api.Block{Live: true})
		for b := range q.Funs[f].Blocks {
			k := &q.Funs[f].Blocks[b]
			k.Code, k.Succ = roomy(k.Code, api.Instr{Id: 77}), roomy(k.Succ, 5)
		}
	}
	return q
}

func wideProgram(p api.Program) api.Program {
	q := api.Program{Funs: wide(p.Funs)}
	for f := range q.Funs {
		q.Funs[f].Blocks = wide(q.Funs[f].Blocks)
		for b := range q.Funs[f].Blocks {
			k := &q.Funs[f].Blocks[b]
			k.Code, k.Succ = wide(k.Code), wide(k.Succ)
		}
	}
	return q
}

func TestProgramStays(t *testing.T) {
	l := roomy([]api.Step{ask(), insert(), {Q: api.Query{V: 1}}}, rewire())
	steps := wide(l)
	for k, p := range append(append(notSane(), sane()...), api.Program{Funs: []api.Fun{{Blocks: []api.Block{{Code: []api.Instr{{Kind: math.MaxInt, N: math.MinInt, F: -9}}, Succ: []int{math.MinInt}}}}}}) {
		p := roomyProgram(p)
		ahead := wideProgram(p)
		b := wire.Put(p)
		c := wire.PutScript(p, l)
		if !bytes.Equal(c[2:2+len(b)], b) || !bytes.Equal(c[2+len(b):], wire.PutSteps(l)) {
			t.Error(k, c)
		}
		if !reflect.DeepEqual(wideProgram(p), ahead) || !slices.Equal(wide(l), steps) {
			t.Error(k, "is changed")
		}
	}
}

func TestBytesStay(t *testing.T) {
	for _, b := range [][]byte{nil, {0}, {9}, madeBytes(), wire.PutScript(made(), []api.Step{ask(), insert()}), bytes.Repeat([]byte{255}, 60), make([]byte, 60), bytes.Repeat([]byte{0, 6}, 60)} {
		for _, behind := range []byte{0, 1, 255} {
			b := roomy(b, behind)
			ahead := wide(b)
			p, err := wire.Get(b)
			l := wire.GetSteps(b)
			q, m, also := wire.GetScript(b)
			if !bytes.Equal(wide(b), ahead) {
				t.Error("is changed", ahead)
			}
			// What stands behind the end is not read.
			checkGet(t, b)
			checkSteps(t, b)
			checkScript(t, b)
			// What is answered does not hang on the bytes any more.
			clear(b[:cap(b)])
			x, was := wantGet(ahead[:len(b)])
			if err != was || !prog.Same(p, x) || !slices.Equal(l, wantSteps(ahead[:len(b)])) {
				t.Error("hangs on", ahead)
			}
			if n, k, e := wire.GetScript(ahead[:len(b)]); also != e || !prog.Same(q, n) || !slices.Equal(m, k) {
				t.Error("hangs on", ahead)
			}
		}
	}
}

func TestStepsOfAnyKind(t *testing.T) {
	far := []int{math.MinInt, -1, 0, 1, 6, 255, math.MaxInt}
	var l []api.Step
	for _, n := range far {
		for _, m := range far {
			i := api.Instr{Id: n, Kind: m, Dst: n, A: m, B: n, C: m, F: n, N: m, Args: [3]int{m, n, m}}
			for _, ask := range []bool{false, true} {
				l = append(l,
					api.Step{Ask: ask, E: api.Edit{Op: n, F: m, B: n, To: m, Other: n, Pos: m, I: i}},
					api.Step{Ask: ask, E: api.Edit{Op: 6, F: m, B: n, To: m, Other: n, Pos: m, I: i}},
					api.Step{Ask: ask, Q: api.Query{Op: n, F: m, B: n, To: m, Pos: n, V: m}},
					api.Step{Ask: ask, E: api.Edit{Op: n, I: i}, Q: api.Query{V: m}},
				)
			}
		}
	}
	ahead := slices.Clone(l)
	wire.PutSteps(l)
	for _, s := range l {
		checkFits(t, s)
	}
	if !slices.Equal(l, ahead) {
		t.Error("is changed")
	}
}
