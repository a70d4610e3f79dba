package apply_test

import (
	"math"
	"reflect"
	"slices"
	"testing"

	"bywash/api"
	"bywash/apply"
	"bywash/edit"
	"bywash/prog"
)

// made is three functions: one with blocks between that are not Live, one that it calls, one without variables. Of the Ids 0 to 7 those not taken are 3 and 5.
func made() api.Program {
	return api.Program{Funs: []api.Fun{
		{Arity: 1, Vars: 3, Blocks: []api.Block{
			{Live: true, Succ: []int{1, 3, 6}, Code: []api.Instr{
				{Id: 4, Kind: api.Const, Dst: 1, C: -7},
				{Id: 0, Kind: api.Call, Dst: 2, F: 1, N: 2, Args: [3]int{0, 1}},
				{Id: 7, Kind: api.Add, Dst: 2, A: 2, B: 1},
			}},
			{Live: true, Succ: []int{1, 3}},
			{},
			{Live: true, Succ: []int{0, 6}, Code: []api.Instr{{Id: 2, Kind: api.Use, A: 2}}},
			{},
			{},
			{Live: true, Succ: []int{6}, Code: []api.Instr{{Id: 6, Kind: api.Ret, A: 2}}},
		}},
		{Arity: 2, Vars: 2, Blocks: []api.Block{{Live: true, Code: []api.Instr{{Id: 1, Kind: api.Ret, A: 1}}}}},
		{Arity: 0, Vars: 0, Blocks: []api.Block{{Live: true, Succ: []int{0}}}},
	}}
}

func changed(change func(p *api.Program)) api.Program {
	p := made()
	change(&p)
	return p
}

// inFirst is p, but for what is done to its first function.
func inFirst(p api.Program, change func(f *api.Fun)) api.Program {
	q := copied(p)
	change(&q.Funs[0])
	return q
}

// blocks is one function of one variable with these blocks: '+' is Live, '-' is not.
func blocks(live string) api.Program {
	p := api.Program{Funs: []api.Fun{{Vars: 1}}}
	for _, c := range live {
		p.Funs[0].Blocks = append(p.Funs[0].Blocks, api.Block{Live: c == '+'})
	}
	return p
}

// withFuns is made, with functions of one block behind its own, n in all.
func withFuns(n int) api.Program {
	return changed(func(p *api.Program) {
		for len(p.Funs) < n {
			p.Funs = append(p.Funs, api.Fun{Blocks: []api.Block{{Live: true}}})
		}
	})
}

// withIds is one function that has these Ids, 16 in a block at most, and behind them a block that has none.
func withIds(ids ...int) api.Program {
	p := blocks("")
	fun := &p.Funs[0]
	for l := range slices.Chunk(ids, api.MaxCode) {
		b := api.Block{Live: true}
		for _, id := range l {
			b.Code = append(b.Code, api.Instr{Id: id, Kind: api.Input})
		}
		fun.Blocks = append(fun.Blocks, b)
	}
	fun.Blocks = append(fun.Blocks, api.Block{Live: true})
	return p
}

// upTo is 0 to n-1.
func upTo(n int) []int {
	var l []int
	for k := range n {
		l = append(l, k)
	}
	return l
}

// notSane are programs that may not be.
func notSane() []api.Program {
	return []api.Program{
		{Funs: []api.Fun{{}}},
		{Funs: make([]api.Fun, 7)},
		withFuns(7),
		blocks("++-"),
		blocks("-+"),
		blocks("+-----------+"),
		inFirst(made(), func(f *api.Fun) { f.Vars = 9 }),
		inFirst(made(), func(f *api.Fun) { f.Blocks[0].Succ = []int{1, 2, 3} }),
		inFirst(made(), func(f *api.Fun) { f.Blocks[0].Succ = []int{1, 99} }),
		inFirst(made(), func(f *api.Fun) { f.Blocks[0].Succ = []int{-1, 1} }),
		inFirst(made(), func(f *api.Fun) { f.Blocks[1].Succ = []int{3, 1} }),
		inFirst(made(), func(f *api.Fun) { f.Blocks[1].Succ = []int{1, 1} }),
		inFirst(made(), func(f *api.Fun) { f.Blocks[0].Code[0].Id = 96 }),
		inFirst(made(), func(f *api.Fun) { f.Blocks[0].Code[0].Id = 6 }),
		inFirst(made(), func(f *api.Fun) { f.Blocks[0].Code[1].F = 3 }),
		inFirst(made(), func(f *api.Fun) { f.Blocks[2].Code = []api.Instr{{Id: 3, Kind: api.Input}} }),
		inFirst(made(), func(f *api.Fun) { f.Blocks = nil }),
	}
}

// fulls are programs at the document's limits.
func fulls() []api.Program {
	return []api.Program{
		{}, {Funs: []api.Fun{}}, blocks("+"), withFuns(5), withFuns(6), blocks("+++++++++++"), blocks("++++++++++++"), blocks("++++-+++++-+"),
		blocks("+----------+"), withIds(upTo(15)...), withIds(upTo(16)...), withIds(upTo(95)...), withIds(upTo(96)...), withIds(upTo(96)[1:]...),
	}
}

// copied is p in memory of its own.
func copied(p api.Program) api.Program {
	q := api.Program{Funs: slices.Clone(p.Funs)}
	for f := range q.Funs {
		q.Funs[f].Blocks = slices.Clone(q.Funs[f].Blocks)
		for b := range q.Funs[f].Blocks {
			k := &q.Funs[f].Blocks[b]
			k.Code, k.Succ = slices.Clone(k.Code), slices.Clone(k.Succ)
		}
	}
	return q
}

// wide is p, with each list as long as there is room for, in memory of its own: so what stands behind the ends is told, too.
func wide(p api.Program) api.Program {
	q := api.Program{Funs: slices.Clone(p.Funs[:cap(p.Funs)])}
	for f := range q.Funs {
		q.Funs[f].Blocks = wideBlocks(q.Funs[f].Blocks)
	}
	return q
}

func wideBlocks(l []api.Block) []api.Block {
	m := slices.Clone(l[:cap(l)])
	for b := range m {
		k := &m[b]
		k.Code, k.Succ = slices.Clone(k.Code[:cap(k.Code)]), slices.Clone(k.Succ[:cap(k.Succ)])
	}
	return m
}

// roomy is p, with room behind the end of each list, in which something stands.
func roomy(p api.Program) api.Program {
	q := copied(p)
	for f := range q.Funs {
		q.Funs[f].Blocks = roomyBlocks(q.Funs[f].Blocks)
	}
	q.Funs = longer(q.Funs, api.Fun{Arity: 77, Vars: 77})
	return q
}

func roomyBlocks(l []api.Block) []api.Block {
	m := slices.Clone(l)
	for b := range m {
		m[b].Code = longer(m[b].Code, api.Instr{Id: 77, Kind: 77})
		m[b].Succ = longer(m[b].Succ, 77)
	}
	return longer(m, api.Block{Live: true, Succ: []int{77}})
}

func longer[T any](l []T, behind T) []T {
	n := len(l)
	return append(slices.Clone(l), behind, behind, behind)[:n]
}

// packed is p, with all lists of a kind side by side in one array: behind the end of one stands the next one.
func packed(p api.Program) api.Program {
	q := copied(p)
	var all []api.Block
	var code []api.Instr
	var succ []int
	for _, f := range q.Funs {
		for _, b := range f.Blocks {
			code, succ = append(code, b.Code...), append(succ, b.Succ...)
		}
		all = append(all, f.Blocks...)
	}
	c, s, k := 0, 0, 0
	for f := range q.Funs {
		n := len(q.Funs[f].Blocks)
		q.Funs[f].Blocks = all[k : k+n]
		k += n
	}
	for b := range all {
		n, m := len(all[b].Code), len(all[b].Succ)
		all[b].Code, all[b].Succ = code[c:c+n], succ[s:s+m]
		c, s = c+n, s+m
	}
	return q
}

// layouts are p in memory laid in several ways.
func layouts(p api.Program) []api.Program {
	return []api.Program{copied(p), roomy(p), packed(p)}
}

var (
	call = api.Instr{Kind: api.Call, Dst: 1, F: 1, N: 2, Args: [3]int{0, 2}}
	read = api.Instr{Kind: api.Input}
)

// withId is i as it stands in a program.
func withId(i api.Instr, id int) api.Instr {
	i.Id = id
	return i
}

// done: e, done to p, is told want and OK, whatever memory p is in.
func done(t *testing.T, name string, p api.Program, e api.Edit, want api.Program) {
	t.Helper()
	if !prog.Sane(want) {
		t.Fatal(name, "what is wanted may not be")
	}
	for k, p := range layouts(p) {
		got, err := apply.Apply(p, e)
		if err != api.OK || !prog.Same(got, want) {
			t.Errorf("%s, %d: Apply tells %d and %+v, not %+v", name, k, err, got, want)
		}
	}
}

// refused: e is told want, and p as it was.
func refused(t *testing.T, p api.Program, e api.Edit, want api.Errno) {
	t.Helper()
	for k, p := range layouts(p) {
		ahead := wide(p)
		got, err := apply.Apply(p, e)
		if err != want || !reflect.DeepEqual(copied(got), copied(p)) || !reflect.DeepEqual(wide(p), ahead) {
			t.Errorf("%+v, %d: Apply tells %d and %+v", e, k, err, got)
		}
	}
}

// P8.1: each kind of edit, with all else as it was.

func TestAddFun(t *testing.T) {
	for _, x := range []struct{ arity, vars int }{{0, 0}, {0, 6}, {1, 3}, {3, 3}, {3, 6}} {
		fun := api.Fun{Arity: x.arity, Vars: x.vars, Blocks: []api.Block{{Live: true}}}
		e := api.Edit{Op: api.AddFun, F: 9, B: x.arity, To: x.vars, Other: 9, Pos: 9, I: read}
		done(t, "behind others", made(), e, changed(func(p *api.Program) { p.Funs = append(p.Funs, fun) }))
		done(t, "the first one", api.Program{}, e, api.Program{Funs: []api.Fun{fun}})
		last := withFuns(5)
		last.Funs = append(last.Funs, fun)
		done(t, "the last one", withFuns(5), e, last)
	}
}

func TestAddBlock(t *testing.T) {
	for _, x := range []struct{ live, want string }{
		{"+", "++"}, {"++", "+++"}, {"+-+", "+++"}, {"+--+", "++-+"}, {"++-+-+", "++++-+"},
		{"+----------+", "++---------+"}, {"+++++++++++", "++++++++++++"}, {"++++++++++-+", "++++++++++++"},
	} {
		done(t, x.live, blocks(x.live), api.Edit{Op: api.AddBlock, B: 9, To: 9}, blocks(x.want))
	}
	done(t, "into the first gap", made(), api.Edit{Op: api.AddBlock}, inFirst(made(), func(f *api.Fun) { f.Blocks[2].Live = true }))
	done(t, "behind the last one", made(), api.Edit{Op: api.AddBlock, F: 1},
		changed(func(p *api.Program) { p.Funs[1].Blocks = append(p.Funs[1].Blocks, api.Block{Live: true}) }))
}

func TestDelBlock(t *testing.T) {
	del := func(b int) api.Edit { return api.Edit{Op: api.DelBlock, B: b, To: 1, Pos: 9} }
	done(t, "between, with edges to it, of itself too", made(), del(1), inFirst(made(), func(f *api.Fun) {
		f.Blocks[0].Succ, f.Blocks[1] = []int{3, 6}, api.Block{}
	}))
	done(t, "between, with instructions", made(), del(3), inFirst(made(), func(f *api.Fun) {
		f.Blocks[0].Succ, f.Blocks[1].Succ, f.Blocks[3] = []int{1, 6}, []int{1}, api.Block{}
	}))
	done(t, "the last one, with those ahead that are not Live", made(), del(6), inFirst(made(), func(f *api.Fun) {
		f.Blocks[0].Succ, f.Blocks[3].Succ, f.Blocks = []int{1, 3}, []int{0}, f.Blocks[:4]
	}))
	for _, x := range []struct {
		live string
		b    int
		want string
	}{
		{"++", 1, "+"}, {"+++", 2, "++"}, {"+++", 1, "+-+"}, {"++-+", 3, "++"}, {"+----------+", 11, "+"}, {"+-+-+", 2, "+---+"}, {"++++++++++++", 10, "++++++++++-+"},
	} {
		done(t, x.live, blocks(x.live), del(x.b), blocks(x.want))
	}
}

// The chapter's example: of three blocks the last one is deleted, the second one is not Live: one is left.
func TestExample(t *testing.T) {
	done(t, "the example", blocks("+-+"), api.Edit{Op: api.DelBlock, B: 2}, blocks("+"))
}

// edged is one function of five blocks that are Live, with these edges from the third one.
func edged(succ ...int) api.Program {
	p := blocks("+++++")
	p.Funs[0].Blocks[1].Succ = []int{0, 2, 4}
	p.Funs[0].Blocks[2].Succ = succ
	return p
}

func TestAddEdge(t *testing.T) {
	for _, x := range []struct {
		name string
		succ []int
		to   int
		want []int
	}{
		{"the first one", nil, 3, []int{3}},
		{"ahead", []int{1, 4}, 0, []int{0, 1, 4}},
		{"between", []int{1, 4}, 3, []int{1, 3, 4}},
		{"behind", []int{1, 3}, 4, []int{1, 3, 4}},
		{"to itself, the first one", nil, 2, []int{2}},
		{"to itself, between", []int{0, 1, 3, 4}, 2, []int{0, 1, 2, 3, 4}},
	} {
		done(t, x.name, edged(x.succ...), api.Edit{Op: api.AddEdge, B: 2, To: x.to, Other: 9}, edged(x.want...))
	}
}

func TestDelEdge(t *testing.T) {
	for _, x := range []struct {
		succ []int
		to   int
		want []int
	}{
		{[]int{1, 4}, 1, []int{4}}, {[]int{1, 4}, 4, []int{1}}, {[]int{2}, 2, nil}, {[]int{0, 2, 3}, 2, []int{0, 3}}, {[]int{0, 1, 2, 3, 4}, 4, []int{0, 1, 2, 3}},
	} {
		done(t, "DelEdge", edged(x.succ...), api.Edit{Op: api.DelEdge, B: 2, To: x.to, Other: 9}, edged(x.want...))
	}
}

func TestRewire(t *testing.T) {
	for _, x := range []struct {
		name      string
		succ      []int
		to, other int
		want      []int
	}{
		{"to a lower one", []int{1, 3}, 3, 0, []int{0, 1}},
		{"to a lower one, still behind", []int{1, 4}, 4, 3, []int{1, 3}},
		{"to a higher one", []int{1, 3}, 1, 4, []int{3, 4}},
		{"to a higher one, still ahead", []int{0, 3}, 0, 1, []int{1, 3}},
		{"past one between", []int{0, 1, 3}, 0, 2, []int{1, 2, 3}},
		{"to where it goes", []int{1, 3}, 3, 3, []int{1, 3}},
		{"the only one to where it goes", []int{2}, 2, 2, []int{2}},
		{"the only one", []int{4}, 4, 2, []int{2}},
	} {
		done(t, x.name, edged(x.succ...), api.Edit{Op: api.Rewire, B: 2, To: x.to, Other: x.other}, edged(x.want...))
	}
}

// inserted is p, with i at the place pos of the block b of the first function.
func inserted(p api.Program, b, pos int, i api.Instr) api.Program {
	return inFirst(p, func(f *api.Fun) { f.Blocks[b].Code = slices.Insert(f.Blocks[b].Code, pos, i) })
}

func TestInsert(t *testing.T) {
	for _, x := range []struct {
		name       string
		p          api.Program
		b, pos, id int
		i          api.Instr
	}{
		{"ahead of all", made(), 0, 0, 3, call},
		{"between", made(), 0, 1, 3, call},
		{"between, ahead of the last one", made(), 0, 2, 3, call},
		{"behind all", made(), 0, 3, 3, call},
		{"where there is none", made(), 1, 0, 3, api.Instr{Kind: api.Const, Dst: 2, C: api.MinConst}},
		{"no Id taken", withIds(), 0, 0, 0, read},
		{"the last one of a block", withIds(upTo(15)...), 0, 15, 15, read},
		{"all Ids of a block taken", withIds(upTo(16)...), 1, 0, 16, read},
		{"the last Id", withIds(upTo(95)...), 5, 15, 95, read},
		{"the first Id", withIds(upTo(96)[1:]...), 5, 7, 0, read},
		{"an Id between", withIds(append([]int{0}, upTo(96)[2:]...)...), 6, 0, 1, read},
	} {
		e := api.Edit{Op: api.Insert, B: x.b, To: 9, Other: 9, Pos: x.pos, I: x.i}
		done(t, x.name, x.p, e, inserted(x.p, x.b, x.pos, withId(x.i, x.id)))
	}
	second := changed(func(p *api.Program) { p.Funs[1].Blocks[0].Code = append(p.Funs[1].Blocks[0].Code, withId(read, 3)) })
	done(t, "of another function", made(), api.Edit{Op: api.Insert, F: 1, Pos: 1, I: read}, second)
}

func TestDelete(t *testing.T) {
	at := func(b, pos int) api.Edit { return api.Edit{Op: api.Delete, B: b, Pos: pos, To: 9, I: call} }
	for pos, left := range [][]int{{1, 2}, {0, 2}, {0, 1}} {
		done(t, "of three", made(), at(0, pos), inFirst(made(), func(f *api.Fun) {
			code := f.Blocks[0].Code
			f.Blocks[0].Code = []api.Instr{code[left[0]], code[left[1]]}
		}))
	}
	done(t, "the only one", made(), at(6, 0), inFirst(made(), func(f *api.Fun) { f.Blocks[6].Code = nil }))
	done(t, "the last one of all", withIds(0), at(0, 0), blocks("++"))
	done(t, "of MaxInstrs", withIds(upTo(96)...), at(5, 15), inFirst(withIds(upTo(96)...), func(f *api.Fun) { f.Blocks[5].Code = f.Blocks[5].Code[:15] }))
}

// P8.1, P8.4: an edit that may not be.

func TestRefused(t *testing.T) {
	for _, x := range []struct {
		p    api.Program
		e    api.Edit
		want api.Errno
	}{
		{made(), api.Edit{Op: -1}, api.ErrForm},
		{made(), api.Edit{Op: 8}, api.ErrForm},
		{made(), api.Edit{Op: math.MaxInt}, api.ErrForm},
		{made(), api.Edit{Op: api.AddFun, B: 4, To: 6}, api.ErrForm},
		{made(), api.Edit{Op: api.AddFun, B: 2, To: 1}, api.ErrForm},
		{withFuns(6), api.Edit{Op: api.AddFun, B: 1, To: 1}, api.ErrFull},
		{made(), api.Edit{Op: api.AddBlock, F: 3}, api.ErrFun},
		{made(), api.Edit{Op: api.AddBlock, F: -1}, api.ErrFun},
		{blocks("++++++++++++"), api.Edit{Op: api.AddBlock}, api.ErrFull},
		{made(), api.Edit{Op: api.DelBlock, B: 0}, api.ErrEntry},
		{made(), api.Edit{Op: api.DelBlock, B: 2}, api.ErrBlock},
		{made(), api.Edit{Op: api.DelBlock, B: 7}, api.ErrBlock},
		{made(), api.Edit{Op: api.AddEdge, B: 0, To: 1}, api.ErrEdge},
		{made(), api.Edit{Op: api.AddEdge, B: 0, To: 2}, api.ErrBlock},
		{made(), api.Edit{Op: api.DelEdge, B: 0, To: 0}, api.ErrEdge},
		{made(), api.Edit{Op: api.DelEdge, B: 4, To: 0}, api.ErrBlock},
		{made(), api.Edit{Op: api.Rewire, B: 0, To: 1, Other: 3}, api.ErrEdge},
		{made(), api.Edit{Op: api.Rewire, B: 0, To: 0, Other: 0}, api.ErrEdge},
		{made(), api.Edit{Op: api.Rewire, B: 0, To: 1, Other: 2}, api.ErrBlock},
		{made(), api.Edit{Op: api.Insert, B: 0, Pos: 4, I: read}, api.ErrPlace},
		{made(), api.Edit{Op: api.Insert, B: 0, Pos: -1, I: read}, api.ErrPlace},
		{made(), api.Edit{Op: api.Insert, B: 0, I: withId(read, 3)}, api.ErrForm},
		{made(), api.Edit{Op: api.Insert, F: 2, I: read}, api.ErrVar},
		{made(), api.Edit{Op: api.Insert, I: api.Instr{Kind: api.Call, F: 3}}, api.ErrFun},
		{made(), api.Edit{Op: api.Insert, I: api.Instr{Kind: api.Call, F: 1}}, api.ErrArity},
		{withIds(upTo(16)...), api.Edit{Op: api.Insert, I: read}, api.ErrFull},
		{withIds(upTo(96)...), api.Edit{Op: api.Insert, B: 6, I: read}, api.ErrFull},
		{made(), api.Edit{Op: api.Delete, B: 0, Pos: 3}, api.ErrPlace},
		{made(), api.Edit{Op: api.Delete, B: 1, Pos: 0}, api.ErrPlace},
		{api.Program{}, api.Edit{Op: api.Delete}, api.ErrFun},
	} {
		refused(t, x.p, x.e, x.want)
		if u, ok := apply.Undo(x.p, x.e); ok || u != (api.Edit{}) {
			t.Error(x.e, u, ok)
		}
		if q, l := apply.All(x.p, []api.Edit{x.e, x.e}); !prog.Same(x.p, q) || !slices.Equal(l, []api.Errno{x.want, x.want}) {
			t.Error(x.e, q, l)
		}
	}
}

func TestNotSane(t *testing.T) {
	for k, p := range notSane() {
		for op := -1; op <= api.Edits; op++ {
			for _, e := range []api.Edit{{Op: op}, {Op: op, B: 1, To: 3, I: read}, {Op: op, F: 7, B: 9, To: 9, Other: 9, Pos: 9}} {
				refused(t, p, e, api.ErrProgram)
				if u, ok := apply.Undo(p, e); ok || u != (api.Edit{}) {
					t.Error(k, e, u, ok)
				}
			}
		}
		q, l := apply.All(p, []api.Edit{{Op: api.AddFun}, {Op: -1}, {Op: api.AddBlock}})
		if !prog.Same(p, q) || !slices.Equal(l, []api.Errno{api.ErrProgram, api.ErrProgram, api.ErrProgram}) {
			t.Error(k, l, q)
		}
	}
}

// P8.2.

func TestTrim(t *testing.T) {
	for _, x := range []struct{ live, want string }{
		{"", ""}, {"-", ""}, {"---", ""}, {"+", "+"}, {"+-", "+"}, {"+--", "+"}, {"+-+", "+-+"}, {"+-+-", "+-+"}, {"-+", "-+"}, {"-+--", "-+"},
		{"--+-+---", "--+-+"}, {"++++++++++++++", "++++++++++++++"}, {"+-------------", "+"},
	} {
		l := blocks(x.live).Funs[0].Blocks
		if got := apply.Trim(l); !reflect.DeepEqual(slices.Clone(got), slices.Clone(blocks(x.want).Funs[0].Blocks)) && len(got)+len(x.want) > 0 {
			t.Error(x.live, got)
		}
	}
	if l := apply.Trim([]api.Block{}); len(l) != 0 {
		t.Error(l)
	}
}

// What blocks have stays, whatever it is, and it alone says nothing of whether they are Live.
func TestTrimKeeps(t *testing.T) {
	l := []api.Block{{Succ: []int{9}}, {Live: true, Succ: []int{3, 1}, Code: []api.Instr{read, call}}, {Succ: []int{1}, Code: []api.Instr{read}}, {Succ: []int{}}}
	l = roomyBlocks(l)
	ahead := wideBlocks(l)
	got := apply.Trim(l)
	if len(got) != 2 || got[0].Live || !slices.Equal(got[0].Succ, []int{9}) || len(got[0].Code) != 0 {
		t.Error(got)
	}
	if b := got[1]; !b.Live || !slices.Equal(b.Succ, []int{3, 1}) || !slices.Equal(b.Code, []api.Instr{read, call}) {
		t.Error(b)
	}
	// Whoever puts something behind what is answered does not write what was handed in.
	_ = append(got, api.Block{Live: true, Succ: []int{5}})
	if !reflect.DeepEqual(wideBlocks(l), ahead) {
		t.Error("what is handed in is changed")
	}
}

func TestAll(t *testing.T) {
	l := []api.Edit{
		{Op: api.Delete, B: 0, Pos: 2},
		{Op: api.Delete, B: 0, Pos: 2},
		{Op: api.AddFun, B: 2, To: 1},
		{Op: api.AddFun, B: 0, To: 1},
		{Op: api.Insert, F: 3, I: read},
		{Op: api.Insert, F: 3, I: api.Instr{Kind: api.Call, F: 3}, Pos: 1},
		{Op: api.Insert, F: 3, I: api.Instr{Kind: api.Call, F: 4}},
		{Op: api.DelBlock, B: 6},
		{Op: api.DelBlock, B: 3},
		{Op: api.DelBlock, B: 3},
		{Op: api.AddBlock},
		{Op: api.AddEdge, B: 2, To: 0},
	}
	want := []api.Errno{api.OK, api.ErrPlace, api.ErrForm, api.OK, api.OK, api.OK, api.ErrFun, api.OK, api.OK, api.ErrBlock, api.OK, api.OK}
	end := changed(func(p *api.Program) {
		f := &p.Funs[0]
		f.Blocks = f.Blocks[:3]
		f.Blocks[0].Code, f.Blocks[0].Succ = f.Blocks[0].Code[:2], []int{1}
		f.Blocks[1].Succ = []int{1}
		f.Blocks[2] = api.Block{Live: true, Succ: []int{0}}
		p.Funs = append(p.Funs, api.Fun{Vars: 1, Blocks: []api.Block{{Live: true, Code: []api.Instr{withId(read, 3), {Id: 5, Kind: api.Call, F: 3}}}}})
	})
	for k, p := range layouts(made()) {
		q, errs := apply.All(p, l)
		if !slices.Equal(errs, want) || !prog.Same(q, end) || !prog.Same(p, made()) {
			t.Errorf("%d: All tells %v and %+v", k, errs, q)
		}
	}
	for _, none := range [][]api.Edit{nil, {}} {
		if q, errs := apply.All(made(), none); len(errs) != 0 || !prog.Same(q, made()) {
			t.Error(q, errs)
		}
	}
}

// P8.3.

func TestUndo(t *testing.T) {
	behind := changed(func(p *api.Program) { p.Funs[1].Blocks = append(p.Funs[1].Blocks, api.Block{Live: true}) })
	for _, x := range []struct {
		name string
		p    api.Program
		e    api.Edit
		want api.Edit
		ok   bool
	}{
		{"a function", made(), api.Edit{Op: api.AddFun, B: 1, To: 2}, api.Edit{}, false},
		{"a block into a gap", made(), api.Edit{Op: api.AddBlock}, api.Edit{Op: api.DelBlock, B: 2}, true},
		{"a block behind the last one", behind, api.Edit{Op: api.AddBlock, F: 1}, api.Edit{Op: api.DelBlock, F: 1, B: 2}, true},
		{"a block more, its number not asked for", made(), api.Edit{Op: api.AddBlock, F: 2, B: 4, To: 5, Other: 6, Pos: 7, I: call}, api.Edit{Op: api.DelBlock, F: 2, B: 1}, true},
		{"without a block", made(), api.Edit{Op: api.DelBlock, B: 3}, api.Edit{}, false},
		{"without a block of nothing", behind, api.Edit{Op: api.DelBlock, F: 1, B: 1}, api.Edit{}, false},
		{"an edge", made(), api.Edit{Op: api.AddEdge, B: 3, To: 1, Other: 6, Pos: 7, I: call}, api.Edit{Op: api.DelEdge, B: 3, To: 1}, true},
		{"an edge of another function to itself", made(), api.Edit{Op: api.AddEdge, F: 1}, api.Edit{Op: api.DelEdge, F: 1}, true},
		{"without an edge", made(), api.Edit{Op: api.DelEdge, B: 0, To: 3, Other: 6, Pos: 7, I: call}, api.Edit{Op: api.AddEdge, B: 0, To: 3}, true},
		{"an edge elsewhere", made(), api.Edit{Op: api.Rewire, B: 3, To: 6, Other: 1, Pos: 7, I: call}, api.Edit{Op: api.Rewire, B: 3, To: 1, Other: 6}, true},
		{"an edge to where it goes", made(), api.Edit{Op: api.Rewire, B: 3, To: 6, Other: 6}, api.Edit{Op: api.Rewire, B: 3, To: 6, Other: 6}, true},
		{"an instruction", made(), api.Edit{Op: api.Insert, B: 0, To: 5, Other: 6, Pos: 2, I: call}, api.Edit{Op: api.Delete, B: 0, Pos: 2}, true},
		{"an instruction of another function", made(), api.Edit{Op: api.Insert, F: 1, I: read}, api.Edit{Op: api.Delete, F: 1}, true},
		{"without one, whose Id comes again", made(), api.Edit{Op: api.Delete, B: 3, To: 5, Other: 6, Pos: 0, I: call},
			api.Edit{Op: api.Insert, B: 3, I: api.Instr{Kind: api.Use, A: 2}}, true},
		{"without one, whose Id is 0", made(), api.Edit{Op: api.Delete, B: 0, Pos: 1},
			api.Edit{Op: api.Insert, Pos: 1, I: api.Instr{Kind: api.Call, Dst: 2, F: 1, N: 2, Args: [3]int{0, 1}}}, true},
		{"without one of another function", made(), api.Edit{Op: api.Delete, F: 1}, api.Edit{Op: api.Insert, F: 1, I: api.Instr{Kind: api.Ret, A: 1}}, true},
		{"without one, whose Id is not the least", made(), api.Edit{Op: api.Delete, B: 0, Pos: 0}, api.Edit{}, false},
		{"without one, whose Id is the greatest", made(), api.Edit{Op: api.Delete, B: 0, Pos: 2}, api.Edit{}, false},
		{"of all Ids, without the first one", withIds(upTo(96)...), api.Edit{Op: api.Delete}, api.Edit{Op: api.Insert, I: read}, true},
		{"of all Ids, without the last one", withIds(upTo(96)...), api.Edit{Op: api.Delete, B: 5, Pos: 15}, api.Edit{Op: api.Insert, B: 5, Pos: 15, I: read}, true},
		{"of all Ids but the first one, without another one", withIds(upTo(96)[1:]...), api.Edit{Op: api.Delete}, api.Edit{}, false},
		{"without the only one, whose Id is 0", withIds(0), api.Edit{Op: api.Delete}, api.Edit{Op: api.Insert, I: read}, true},
		{"without the only one, whose Id is 1", withIds(1), api.Edit{Op: api.Delete}, api.Edit{}, false},
	} {
		for k, p := range layouts(x.p) {
			got, ok := apply.Undo(p, x.e)
			if got != x.want || ok != x.ok {
				t.Errorf("%s, %d: Undo tells %+v, %v", x.name, k, got, ok)
			}
			if ok {
				thereAndBack(t, p, x.e)
			}
		}
	}
}

func thereAndBack(t *testing.T, p api.Program, e api.Edit) {
	t.Helper()
	u, _ := apply.Undo(p, e)
	there, _ := apply.Apply(p, e)
	back, err := apply.Apply(there, u)
	if err != api.OK || !prog.Same(back, p) {
		t.Fatalf("%+v, undone by %+v: %d and %+v, not %+v", e, u, err, back, p)
	}
}

// All edits of some programs, held against the chapter's words told apart from the calls.

// wantApply is p behind an edit that may be: all that is there by number, instead of lists.
func wantApply(p api.Program, e api.Edit) api.Program {
	q := copied(p)
	if e.Op == api.AddFun {
		q.Funs = append(q.Funs, api.Fun{Arity: e.B, Vars: e.To, Blocks: []api.Block{{Live: true}}})
		return q
	}
	var all [api.MaxBlocks]api.Block
	var edges [api.MaxBlocks][api.MaxBlocks]bool
	for b, k := range q.Funs[e.F].Blocks {
		all[b] = k
		for _, to := range k.Succ {
			edges[b][to] = true
		}
	}
	switch e.Op {
	case api.AddBlock:
		b := 0
		for all[b].Live {
			b++
		}
		all[b] = api.Block{Live: true}
	case api.DelBlock:
		all[e.B], edges[e.B] = api.Block{}, [api.MaxBlocks]bool{}
		for b := range edges {
			edges[b][e.B] = false
		}
	case api.AddEdge:
		edges[e.B][e.To] = true
	case api.DelEdge:
		edges[e.B][e.To] = false
	case api.Rewire:
		edges[e.B][e.To] = false
		edges[e.B][e.Other] = true
	case api.Insert:
		all[e.B].Code = slices.Insert(all[e.B].Code, e.Pos, withId(e.I, leastId(p)))
	case api.Delete:
		all[e.B].Code = slices.Delete(all[e.B].Code, e.Pos, e.Pos+1)
	}
	q.Funs[e.F].Blocks = listed(all, edges)
	return q
}

func leastId(p api.Program) int {
	taken := map[int]bool{}
	for _, f := range p.Funs {
		for _, b := range f.Blocks {
			for _, i := range b.Code {
				taken[i.Id] = true
			}
		}
	}
	id := 0
	for taken[id] {
		id++
	}
	return id
}

func listed(all [api.MaxBlocks]api.Block, edges [api.MaxBlocks][api.MaxBlocks]bool) []api.Block {
	var l []api.Block
	for b, k := range all {
		if !k.Live {
			continue
		}
		for len(l) < b {
			l = append(l, api.Block{})
		}
		k.Succ = nil
		for to, there := range edges[b] {
			if there {
				k.Succ = append(k.Succ, to)
			}
		}
		l = append(l, k)
	}
	return l
}

// wantUndo: may e be undone, by the chapter's words?
func wantUndo(p, q api.Program, e api.Edit) bool {
	switch e.Op {
	case api.AddFun, api.DelBlock:
		return false
	case api.Delete:
		return leastId(q) == p.Funs[e.F].Blocks[e.B].Code[e.Pos].Id
	}
	return true
}

// checkEdit holds all calls of one edit against the chapter's words, and tells what Apply tells.
func checkEdit(t *testing.T, p api.Program, e api.Edit) (api.Program, api.Errno) {
	t.Helper()
	want, undone, wantErr := p, false, edit.Check(p, e)
	if wantErr == api.OK {
		want = wantApply(p, e)
		undone = wantUndo(p, want, e)
	}
	got, err := apply.Apply(p, e)
	if err != wantErr || !prog.Same(got, want) || prog.Sane(got) != prog.Sane(p) {
		t.Fatalf("%+v of %+v: Apply tells %d and %+v, not %d and %+v", e, p, err, got, wantErr, want)
	}
	u, ok := apply.Undo(p, e)
	if ok != undone || !ok && u != (api.Edit{}) {
		t.Fatalf("%+v of %+v: Undo tells %+v, %v", e, p, u, ok)
	}
	if ok {
		thereAndBack(t, p, e)
		checkParts(t, e, u)
	}
	return got, err
}

// checkParts: an edit back names F and B, and of the other parts those of its Op alone.
func checkParts(t *testing.T, e, u api.Edit) {
	t.Helper()
	opBack := [api.Edits]int{1: api.DelBlock, 3: api.DelEdge, 4: api.AddEdge, 5: api.Rewire, 6: api.Delete, 7: api.Insert}
	other := u.Op != api.Rewire && u.Other != 0
	to := (u.Op == api.DelBlock || u.Op == api.Insert || u.Op == api.Delete) && u.To != 0
	pos := u.Op != api.Insert && u.Op != api.Delete && u.Pos != 0
	code := u.Op != api.Insert && u.I != (api.Instr{}) || u.I.Id != 0
	if u.Op != opBack[e.Op] || u.F != e.F || e.Op != api.AddBlock && u.B != e.B || other || to || pos || code {
		t.Fatalf("%+v: undone by %+v", e, u)
	}
}

// named are the parts that an Op is about.
var named = [api.Edits]string{
	api.AddFun: "bt", api.AddBlock: "f", api.DelBlock: "fb", api.AddEdge: "fbt",
	api.DelEdge: "fbt", api.Rewire: "fbto", api.Insert: "fbpi", api.Delete: "fbp",
}

// parted is e, with n for one of its parts.
func parted(e api.Edit, part rune, n int) api.Edit {
	*map[rune]*int{'f': &e.F, 'b': &e.B, 't': &e.To, 'o': &e.Other, 'p': &e.Pos}[part] = n
	return e
}

// edits are all of an Op whose named parts are these numbers, or these instructions.
func edits(op int, numbers []int, code []api.Instr) []api.Edit {
	l := []api.Edit{{Op: op}}
	for _, part := range named[op] {
		var more []api.Edit
		for _, e := range l {
			if part == 'i' {
				for _, i := range code {
					e.I = i
					more = append(more, e)
				}
				continue
			}
			for _, n := range numbers {
				more = append(more, parted(e, part, n))
			}
		}
		l = more
	}
	return l
}

func TestAllEdits(t *testing.T) {
	numbers := []int{-1, 0, 1, 2, 3, 6}
	code := []api.Instr{call, read, {Kind: api.Const, Dst: 1, C: 5}, {Kind: api.Use, A: 2}, {Id: 3, Kind: api.Use}, {Kind: api.Call, F: 2}, {Kind: api.Call, F: 1, N: 3}, {Kind: 10}}
	seen := map[api.Errno]int{}
	for _, p := range slices.Concat(fulls(), layouts(made()), layouts(edged(0, 2, 3))) {
		ahead, answers := wide(p), kept{}
		for op := range api.Edits {
			for _, e := range edits(op, numbers, code) {
				q, err := checkEdit(t, p, e)
				answers.keep(q)
				seen[err]++
			}
		}
		if !reflect.DeepEqual(wide(p), ahead) {
			t.Error("what is handed in is changed")
		}
		answers.check(t)
	}
	for err := range api.ErrForm + 1 {
		if seen[err] < 5 {
			t.Error("too few tell", err, seen)
		}
	}
}

// kept are answers, with how they were when they were told.
type kept struct{ now, then []api.Program }

func (k *kept) keep(p api.Program) {
	k.now, k.then = append(k.now, p), append(k.then, copied(p))
}

func (k *kept) check(t *testing.T) {
	t.Helper()
	for n := range k.now {
		if !prog.Same(k.now[n], k.then[n]) {
			t.Fatal("what was answered is changed", k.now[n], k.then[n])
		}
	}
}

// Long rows of edits, made by a rule: most of them may be.

// numbersOf tells numbers, the same ones each time.
type numbersOf struct{ seed uint64 }

func (r *numbersOf) below(n int) int {
	r.seed = r.seed*6364136223846793005 + 1442695040888963407
	return int(r.seed>>33) % n
}

func (r *numbersOf) of(l []int) int { return l[r.below(len(l))] }

// rolled is an edit of p, of a block that is Live, if there is one.
func rolled(r *numbersOf, p api.Program) api.Edit {
	e := api.Edit{Op: r.of([]int{0, 1, 1, 2, 3, 3, 3, 4, 5, 5, 6, 6, 6, 6, 7, 7}), B: r.below(4), To: r.below(7)}
	if e.Op == api.AddFun || len(p.Funs) == 0 {
		return e
	}
	e.F = r.below(len(p.Funs))
	fun := p.Funs[e.F]
	var live []int
	for b, k := range fun.Blocks {
		if k.Live {
			live = append(live, b)
		}
	}
	e.B, e.To, e.Other = r.of(live), r.of(live), r.of(live)
	if succ := fun.Blocks[e.B].Succ; len(succ) > 0 && r.below(3) > 0 && e.Op != api.AddEdge {
		e.To = r.of(succ)
	}
	e.Pos = r.below(len(fun.Blocks[e.B].Code) + 1)
	v, g := func() int { return r.below(fun.Vars + 1) }, r.below(len(p.Funs))
	e.I = []api.Instr{{Kind: api.Const, Dst: v(), C: 5}, {Kind: api.Sub, Dst: v(), A: v(), B: v()}, {Kind: api.Ret, A: v()}, {Kind: api.Call, Dst: v(), F: g, N: p.Funs[g].Arity}}[r.below(4)]
	for a := range e.I.N {
		e.I.Args[a] = v()
	}
	return e
}

func TestManyEdits(t *testing.T) {
	r, seen := &numbersOf{7}, map[int]int{}
	for range 60 {
		start := api.Program{}
		p, l, errs, answers := start, []api.Edit{}, []api.Errno{}, kept{}
		for range 150 {
			e := rolled(r, p)
			// An answer that is used again, and not the last time: what comes of one edit stays as it is behind the other one.
			apart, _ := checkEdit(t, p, rolled(r, p))
			q, err := checkEdit(t, p, e)
			if err == api.OK {
				seen[e.Op]++
			}
			answers.keep(apart)
			answers.keep(q)
			p, l, errs = q, append(l, e), append(errs, err)
		}
		answers.check(t)
		ahead := slices.Clone(l)
		if q, got := apply.All(start, l); !slices.Equal(got, errs) || !prog.Same(p, q) || !prog.Sane(q) || !slices.Equal(l, ahead) {
			t.Fatal("All", got, errs)
		}
	}
	for op := range api.Edits {
		if seen[op] < 100 {
			t.Error("too few of", edit.Name(op), seen)
		}
	}
}

// P1, R3: every call at numbers and programs of any kind; what is handed in stays.

func TestNothingIsChanged(t *testing.T) {
	far := []int{math.MinInt, -1, 0, 1, 12, math.MaxInt}
	for _, p := range append(append(notSane(), fulls()...), made()) {
		for k, p := range layouts(p) {
			ahead := wide(p)
			for _, op := range append(far, 2, 3, 4, 5, 6, 7, 8) {
				for _, n := range far {
					for _, m := range far {
						i := api.Instr{Id: n, Kind: m, Dst: n, A: m, B: n, C: m, F: n, N: m, Args: [3]int{m, n, m}}
						e := api.Edit{Op: op, F: n, B: m, To: n, Other: m, Pos: m, I: i}
						l := []api.Edit{e, {Op: op, B: n, To: m, Other: n, Pos: m, I: read}}
						for _, e := range l {
							apply.Apply(p, e)
							apply.Undo(p, e)
						}
						apply.All(p, l)
					}
				}
			}
			for _, f := range p.Funs {
				apply.Trim(f.Blocks)
			}
			if !reflect.DeepEqual(wide(p), ahead) {
				t.Error(k, "is changed")
			}
		}
	}
}
