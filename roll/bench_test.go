package roll_test

import (
	"reflect"
	"slices"
	"testing"

	"plover/api"
	"plover/mem"
	"plover/roll"
	"plover/step"
	"plover/write"
)

// bench is a writer beside the model of what it does.
type bench struct {
	t    *testing.T
	c    api.Conf
	m    *mem.Mem
	w    api.Writer
	x    *model
	want []uint32 // what the memory should hold
}

// newBench is one at its beginning, in a memory of cells that are 0.
func newBench(t *testing.T, c api.Conf) *bench {
	t.Helper()
	x, l := newModel(t, c)
	m, err := mem.New(x.p.Cells)
	if err != api.OK {
		t.Fatal(err)
	}
	b := &bench{t: t, c: c, m: m, x: x, want: m.Cells()}
	b.expect(l)
	b.w, err = write.New(m, c)
	if err != api.OK {
		t.Fatalf("New: %v", err)
	}
	b.held("New")
	return b
}

// expect makes stores in what is wanted.
func (b *bench) expect(l []store) {
	for _, s := range l {
		b.want[s.a] = s.v
	}
}

// held holds the memory and the writer against the model.
func (b *bench) held(what string) {
	b.t.Helper()
	b.wantCells(what)
	wantWriter(b.t, what, b.w, b.x.writer())
	if got, want := b.x.contentsIn(b.want), b.x.contents(); !reflect.DeepEqual(got, want) {
		b.t.Fatalf("%s: the segments have %v, want %v", what, got, want)
	}
}

// wantCells holds the whole memory against what is wanted.
func (b *bench) wantCells(what string) {
	b.t.Helper()
	cells := b.m.Cells()
	if slices.Equal(cells, b.want) {
		return
	}
	for a, v := range cells {
		if v != b.want[a] {
			b.t.Fatalf("%s: the cell %d holds %d, want %d", what, a, v, b.want[a])
		}
	}
}

// wantWriter holds a writer against the one wanted.
func wantWriter(t *testing.T, what string, got, want api.Writer) {
	t.Helper()
	if !slices.Equal(got.Segs, want.Segs) || got.Terms != want.Terms || got.Version != want.Version || got.Used != want.Used {
		t.Fatalf("%s: the writer %+v, want %+v", what, got, want)
	}
}

// call is an operation of a writer as a program, and where it leaves its answer.
type call struct {
	o   api.Op
	w   api.Writer
	err api.Errno
}

func (x *call) program(c api.Conf, w api.Writer) func(r *step.Run) {
	return func(r *step.Run) {
		switch x.o.Kind {
		case api.Add:
			x.w, x.err = write.Add(r, c, w, x.o.Doc)
		case api.Delete:
			x.w, x.err = write.Delete(r, c, w, x.o.Id)
		default:
			x.w, x.err = roll.Roll(r, c, w)
		}
	}
}

// run goes on with a program to its end, alone.
func run(t *testing.T, m *mem.Mem, program func(r *step.Run)) *step.Run {
	t.Helper()
	r := step.New(m)
	for !r.Step(program) {
	}
	if r.Err() != api.OK {
		t.Fatalf("a run ended with %v", r.Err())
	}
	return r
}

// do goes on with an operation to its end: its error. All that it does is held against the model.
func (b *bench) do(o api.Op) api.Errno {
	b.t.Helper()
	if o.Kind == api.Roll {
		return b.roll()
	}
	l, want := b.x.do(o)
	x := &call{o: o}
	run(b.t, b.m, x.program(b.c, b.w))
	b.expect(l)
	b.answered(x, want)
	return x.err
}

// answered holds an operation's answer against the one wanted, and all else behind it.
func (b *bench) answered(x *call, err api.Errno) {
	b.t.Helper()
	if x.err != err {
		b.t.Fatalf("%+v: %v, want %v", x.o, x.err, err)
	}
	if err != api.OK {
		wantWriter(b.t, "beside an error", x.w, api.Writer{})
	} else {
		b.w = x.w
	}
	b.held("behind an operation")
}

// roll goes on with a Roll to its end, and holds each Step against the model: its error.
func (b *bench) roll() api.Errno {
	b.t.Helper()
	v := &vigil{b: b, was: b.m.Cells(), used: b.w.Used, ahead: b.x.contents()}
	v.left, v.err = b.x.do(seal())
	v.stores = len(v.left)
	given := b.w
	given.Segs = slices.Clone(b.w.Segs)
	x := &call{o: seal()}
	program, r := x.program(b.c, given), step.New(b.m)
	steps := 0
	for over := false; !over; steps++ {
		loads, stores := b.m.Loads(), b.m.Stores()
		over = r.Step(program)
		v.watch(b.m.Loads()-loads, b.m.Stores()-stores, over)
	}
	if len(v.left) > 0 || r.Err() != api.OK {
		b.t.Fatalf("%d stores are missing; the run: %v", len(v.left), r.Err())
	}
	if most := 60 * (b.m.Len() + 16) * 16; steps != r.Count() || steps > most {
		b.t.Fatalf("%d Steps, %d accesses, at most %d", steps, r.Count(), most)
	}
	if !slices.Equal(given.Segs, b.w.Segs) {
		b.t.Fatalf("the writer that was handed in has turned: %+v", given)
	}
	b.answered(x, v.err)
	if v.err == api.OK {
		b.behindRoll(v.used[api.Room])
	}
	return x.err
}

// behindRoll holds what a Roll has taken against Size, and that nothing is in the live segment.
func (b *bench) behindRoll(used int) {
	b.t.Helper()
	segs := len(b.w.Segs)
	sealed := b.x.segs[segs-2]
	if got, want := roll.Size(b.c, len(sealed.docs), sealed.lists(), segs-1), b.w.Used[api.Room]-used; got != want {
		b.t.Fatalf("Size answers %d cells, and %d were taken", got, want)
	}
	live := b.w.Segs[segs-1]
	for a, v := range b.m.Cells()[live.Addr:][:b.x.p.Live] {
		if v != 0 {
			b.t.Fatalf("the live segment's cell %d holds %d", a, v)
		}
	}
	if live.Docs != 0 || live.Sealed || b.w.Terms != 0 {
		b.t.Fatalf("behind a Roll the writer is %+v", b.w)
	}
}

// vigil watches a Roll, Step by Step.
type vigil struct {
	b      *bench
	was    []uint32       // the memory ahead of it
	used   [api.Pools]int // and what was used
	ahead  []content
	left   []store // that are to come
	stores int
	err    api.Errno
}

// watch holds a Step with so many loads and stores against the model.
func (v *vigil) watch(loads, stores int, over bool) {
	t := v.b.t
	t.Helper()
	if loads+stores != 1 || stores > len(v.left) {
		t.Fatalf("a Step with %d loads and %d stores, of %d that are left", loads, stores, len(v.left))
	}
	if stores == 0 {
		if over && v.err == api.OK {
			t.Fatalf("over, where %d of %d stores are left", len(v.left), v.stores)
		}
		return
	}
	s := v.left[0]
	v.left = v.left[1:]
	v.b.expect([]store{s})
	v.b.wantCells("behind a store")
	n := len(v.left)
	if over != (n == 0) || over != (s.a == 2) {
		t.Fatalf("the store of %d at %d, with %d behind it: over is %v", s.v, s.a, n, over)
	}
	if n == 0 {
		return // all is looked at behind the Roll
	}
	v.untouched()
	if n%(1+v.stores/200) == 0 { // of many stores not each one
		if got := v.b.x.contentsIn(v.b.want); !reflect.DeepEqual(got, v.ahead) {
			t.Fatalf("%d stores ahead of the last one the segments have %v, and had %v", n, got, v.ahead)
		}
	}
}

// untouched holds all cells that were used against what they held.
func (v *vigil) untouched() {
	v.b.t.Helper()
	cells := v.b.m.Cells()
	same := slices.Equal(cells[:3], v.was[:3])
	for k, n := range v.used {
		a := v.b.x.p.Base[k]
		same = same && slices.Equal(cells[a:a+n], v.was[a:a+n])
	}
	if !same {
		v.b.t.Fatal("what belongs to the old manifest has turned")
	}
}

// byHand makes stores that the model has made, but no call makes, and hands on the writer.
func (b *bench) byHand(l []store) {
	b.t.Helper()
	b.expect(l)
	for _, s := range l {
		b.m.Store(s.a, s.v)
	}
	b.w = b.x.writer()
	b.held("by hand")
}

// add, del and seal are operations.
func add(id uint32, fields ...string) api.Op {
	return api.Op{Kind: api.Add, Doc: api.Doc{Id: id, Fields: fields}}
}

func del(id uint32) api.Op {
	return api.Op{Kind: api.Delete, Id: id}
}

func seal() api.Op {
	return api.Op{Kind: api.Roll}
}

// all does operations, each of which must answer OK.
func (b *bench) all(l ...api.Op) {
	b.t.Helper()
	for _, o := range l {
		b.wants(api.OK, o)
	}
}

// wants does an operation, and holds its error against the one wanted.
func (b *bench) wants(err api.Errno, o api.Op) {
	b.t.Helper()
	if got := b.do(o); got != err {
		b.t.Fatalf("%+v: %v, want %v", o, got, err)
	}
}
