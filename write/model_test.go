package write_test

import (
	"maps"
	"slices"
	"testing"

	"plover/api"
	"plover/mem"
	"plover/pack"
	"plover/pool"
	"plover/step"
	"plover/token"
	"plover/write"
)

// store is a cell that is stored, and what.
type store struct {
	a int
	v uint32
}

// row is one of a segment: birth, id, length, tomb.
type row [4]uint32

// sees is the chapter's word for a row and a version.
func sees(x row, v uint32) bool {
	return x[0] != 0 && x[0] <= v && (x[3] == 0 || x[3] > v)
}

// segment is one with what was added to it.
type segment struct {
	addr   int
	sealed bool
	rows   []row
}

// base is where its rows begin.
func (s segment) base() int {
	if s.sealed {
		return s.addr + 2
	}
	return s.addr + 1
}

// entry is a term of the live segment: its record, its tail, the class of the slab there, and how many words still go into that.
type entry struct{ record, tail, class, left int }

// model is what a writer has done, by the chapters' words. It goes word by word, and looks behind them whether the pools have had so much: it plans nothing.
type model struct {
	c       api.Conf
	p       api.Plan
	used    [api.Pools]int
	version uint32
	segs    []segment
	terms   map[string]entry
	slots   map[int]bool // that have a record
}

// newModel is one at its beginning, and what is stored then.
func newModel(t *testing.T, c api.Conf) (*model, []store) {
	t.Helper()
	x := &model{c: c, p: laid(t, c)}
	live := x.begin()
	manifest := x.take(api.Room, 2)
	return x, []store{{manifest, 1}, {manifest + 1, uint32(live)}, {2, uint32(manifest)}}
}

// laid is the plan of a configuration that may be.
func laid(t *testing.T, c api.Conf) api.Plan {
	t.Helper()
	p, err := pool.Lay(c)
	if err != api.OK {
		t.Fatalf("Lay of %+v: %v", c, err)
	}
	return p
}

// take takes cells of a pool, whether there are so many or not.
func (x *model) take(k, n int) int {
	a := x.p.Base[k] + x.used[k]
	x.used[k] += n
	return a
}

// begin takes a new live segment: its address.
func (x *model) begin() int {
	a := x.take(api.Room, x.p.Live)
	x.segs = append(x.segs, segment{addr: a})
	x.terms, x.slots = map[string]entry{}, map[int]bool{}
	return a
}

func (x *model) clone() *model {
	y := *x
	y.segs = nil
	for _, s := range x.segs {
		s.rows = slices.Clone(s.rows)
		y.segs = append(y.segs, s)
	}
	y.terms, y.slots = maps.Clone(x.terms), maps.Clone(x.slots)
	return &y
}

// writer is what a writer knows that did all this.
func (x *model) writer() api.Writer {
	w := api.Writer{Terms: len(x.terms), Version: x.version, Used: x.used}
	for _, s := range x.segs {
		w.Segs = append(w.Segs, api.Seg{Addr: s.addr, Docs: len(s.rows), Sealed: s.sealed})
	}
	return w
}

// alive are the ids of the documents that were added and not deleted, in order.
func (x *model) alive() []uint32 {
	var l []uint32
	for _, s := range x.segs {
		for _, r := range s.rows {
			if r[3] == 0 {
				l = append(l, r[1])
			}
		}
	}
	return l
}

// do is what an operation stores, in order, and its error. (A Roll has none.)
func (x *model) do(o api.Op) ([]store, api.Errno) {
	switch o.Kind {
	case api.Add:
		return x.add(o.Doc)
	case api.Delete:
		return x.del(o.Id)
	}
	return x.seal(), api.OK
}

func (x *model) add(d api.Doc) ([]store, api.Errno) {
	words, err := token.Tokens(d.Fields)
	if err != api.OK {
		return nil, err
	}
	if _, r := x.find(d.Id); r != nil {
		return nil, api.ErrDup
	}
	y := x.clone()
	live := &y.segs[len(y.segs)-1]
	if len(live.rows) == x.c.Docs || x.ahead(words) > x.c.Terms {
		return nil, api.ErrSegFull
	}
	var l []store
	doc := len(live.rows)
	for _, t := range words {
		l = append(l, y.word(pack.Key(t.Field, t.Text), doc, t.Pos)...)
	}
	for k, n := range y.used {
		if n > x.p.Size[k] {
			return nil, api.ErrFull
		}
	}
	y.version++
	b := live.base() + 4*doc
	live.rows = append(live.rows, row{y.version, d.Id, uint32(len(words))})
	*x = *y
	return append(l, store{b + 1, d.Id}, store{b + 2, uint32(len(words))}, store{b, y.version}, store{1, y.version}), api.OK
}

// find is where an id's row begins, and the row; nil, if there is none.
func (x *model) find(id uint32) (int, *row) {
	for _, s := range x.segs {
		for d := range s.rows {
			if s.rows[d][1] == id {
				return s.base() + 4*d, &s.rows[d]
			}
		}
	}
	return 0, nil
}

// ahead is how many terms the live segment would have with these words.
func (x *model) ahead(words []api.Tok) int {
	all := maps.Clone(x.terms)
	for _, t := range words {
		all[pack.Key(t.Field, t.Text)] = entry{}
	}
	return len(all)
}

// word adds one of a document's.
func (x *model) word(key string, doc, pos int) []store {
	var l []store
	e, ok := x.terms[key]
	if !ok {
		e, l = x.enter(key)
	}
	if e.left == 0 {
		e.class = min(e.class+1, 3)
		size := []int{4, 16, 64, 256}[e.class]
		link := x.take(e.class, size)
		if e.tail > 0 {
			l = append(l, store{link, uint32(e.tail)})
		}
		e.tail, e.left = link, size-1
	}
	e.tail, e.left = e.tail+1, e.left-1
	x.terms[key] = e
	return append(l, store{e.tail, uint32(65536*doc + pos)}, store{e.record, uint32(e.tail)})
}

// enter puts a term into the dictionary.
func (x *model) enter(key string) (entry, []store) {
	cells := pack.Cells(key)
	record := x.take(api.Book, 2+len(cells))
	l := []store{{record + 1, uint32(len(key))}}
	for k, v := range cells {
		l = append(l, store{record + 2 + k, v})
	}
	slot := int(pack.Hash(key) % uint32(x.p.Slots))
	for x.slots[slot] {
		slot = (slot + 1) % x.p.Slots
	}
	x.slots[slot] = true
	dictionary := x.segs[len(x.segs)-1].base() + 4*x.c.Docs
	return entry{record: record, class: -1}, append(l, store{dictionary + slot, uint32(record)})
}

func (x *model) del(id uint32) ([]store, api.Errno) {
	a, r := x.find(id)
	if r == nil || r[3] != 0 {
		return nil, api.ErrNoDoc
	}
	x.version++
	r[3] = x.version
	return []store{{a + 3, x.version}, {1, x.version}}, api.OK
}

// seal stands for a roll: the rows of the live segment as a sealed one, without lists, which neither Add nor Delete looks at.
func (x *model) seal() []store {
	s := &x.segs[len(x.segs)-1]
	s.addr, s.sealed = x.take(api.Room, 2+4*len(s.rows)), true
	l := []store{{s.addr, uint32(1 + len(s.rows))}, {s.addr + 1, 0}}
	for d, r := range s.rows {
		for k, v := range r {
			l = append(l, store{s.base() + 4*d + k, v})
		}
	}
	x.begin()
	manifest := x.take(api.Room, 1+len(x.segs))
	l = append(l, store{manifest, uint32(len(x.segs))})
	for i, s := range x.segs {
		l = append(l, store{manifest + 1 + i, uint32(s.addr)})
	}
	return append(l, store{2, uint32(manifest)})
}

// seenBy is what a version sees in a memory, by the chapters' words alone: from the cell 2 on through the manifest to the rows.
func seenBy(l []uint32, docs int, v uint32) []api.Seen {
	var all []api.Seen
	manifest := l[l[2]:]
	for i, a := range manifest[1:][:manifest[0]] {
		rows := l[a+1:][:4*docs]
		if n := l[a]; n > 0 {
			rows = l[a+2:][:4*(n-1)]
		}
		for d := range len(rows) / 4 {
			if x := row(rows[4*d:]); sees(x, v) {
				all = append(all, api.Seen{Doc: 100*i + d, Id: x[1], Length: int(x[2])})
			}
		}
	}
	return all
}

// bench is a writer beside the model of what it does.
type bench struct {
	t    *testing.T
	c    api.Conf
	m    *mem.Mem
	w    api.Writer
	x    *model
	want []uint32   // what the memory should hold
	seen []api.Seen // what the version in the cell 1 saw when it was stored
}

// newBench is one at its beginning, in a memory of cells that are 0.
func newBench(t *testing.T, c api.Conf) *bench {
	t.Helper()
	x, l := newModel(t, c)
	m, err := mem.New(x.p.Cells)
	if err != api.OK {
		t.Fatal(err)
	}
	b := &bench{t: t, c: c, m: m, x: x, want: m.Cells()}
	for _, s := range l {
		b.want[s.a] = s.v
	}
	b.w, err = write.New(m, c)
	if err != api.OK {
		t.Fatalf("New: %v", err)
	}
	wantWriter(t, "New", b.w, x.writer())
	wantCells(t, "behind New", m, b.want)
	return b
}

// wantWriter holds a writer against the one wanted.
func wantWriter(t *testing.T, what string, got, want api.Writer) {
	t.Helper()
	if !slices.Equal(got.Segs, want.Segs) || got.Terms != want.Terms || got.Version != want.Version || got.Used != want.Used {
		t.Fatalf("%s: the writer %+v, want %+v", what, got, want)
	}
}

// wantCells holds the whole memory against what is wanted.
func wantCells(t *testing.T, what string, m *mem.Mem, want []uint32) {
	t.Helper()
	for a, v := range m.Cells() {
		if v != want[a] {
			t.Fatalf("%s: the cell %d holds %d, want %d", what, a, v, want[a])
		}
	}
}

// call is an operation of a writer as a program, and where it leaves its answer.
type call struct {
	o   api.Op
	w   api.Writer
	err api.Errno
}

func (x *call) program(c api.Conf, w api.Writer) func(r *step.Run) {
	return func(r *step.Run) {
		if x.o.Kind == api.Add {
			x.w, x.err = write.Add(r, c, w, x.o.Doc)
			return
		}
		x.w, x.err = write.Delete(r, c, w, x.o.Id)
	}
}

// do goes on with an operation to its end, and holds behind each Step what it stores, and what is seen, against the model: its error.
func (b *bench) do(o api.Op) api.Errno {
	b.t.Helper()
	l, want := b.x.do(o)
	if o.Kind == api.Roll {
		b.settle(l)
		return want
	}
	x := &call{o: o}
	given := b.w
	given.Segs = slices.Clone(b.w.Segs)
	program, r := x.program(b.c, given), step.New(b.m)
	for over := false; !over; {
		loads, stores := b.m.Loads(), b.m.Stores()
		over = r.Step(program)
		if n := b.m.Stores() - stores; n > 0 {
			if n > 1 || len(l) == 0 || b.m.Loads() > loads {
				b.t.Fatalf("%+v: %d stores in a Step, of %d that are left, with %d loads", o, n, len(l), b.m.Loads()-loads)
			}
			b.stored(l[0])
			l = l[1:]
		}
	}
	if len(l) > 0 || r.Err() != api.OK {
		b.t.Fatalf("%+v: %d stores are missing; the run: %v", o, len(l), r.Err())
	}
	b.wantAnswer(x, want, r.Count())
	if !slices.Equal(given.Segs, b.w.Segs) {
		b.t.Fatalf("%+v: the writer that was handed in has turned", o)
	}
	if x.err == api.OK {
		b.w = x.w
	}
	return x.err
}

// stored holds the memory against the model behind one store more, and what the version sees against what it saw when it was stored.
func (b *bench) stored(s store) {
	b.t.Helper()
	b.want[s.a] = s.v
	wantCells(b.t, "behind a store", b.m, b.want)
	seen := seenBy(b.want, b.c.Docs, b.want[1])
	if s.a == 1 {
		b.seen = seen
		if ids := idsOf(seen); !slices.Equal(ids, b.x.alive()) {
			b.t.Fatalf("the version %d sees %v, want %v", s.v, ids, b.x.alive())
		}
	}
	if !slices.Equal(seen, b.seen) {
		b.t.Fatalf("behind the store of %d at %d the version %d sees %+v, and saw %+v", s.v, s.a, b.want[1], seen, b.seen)
	}
}

func idsOf(l []api.Seen) []uint32 {
	var ids []uint32
	for _, s := range l {
		ids = append(ids, s.Id)
	}
	return ids
}

// wantAnswer holds an operation's answer, and how many accesses it made, against what is wanted.
func (b *bench) wantAnswer(x *call, err api.Errno, count int) {
	b.t.Helper()
	if x.err != err {
		b.t.Fatalf("%+v: %v, want %v", x.o, x.err, err)
	}
	if err == api.OK {
		wantWriter(b.t, "behind it", x.w, b.x.writer())
	} else {
		wantWriter(b.t, "beside an error", x.w, api.Writer{})
	}
	l := 0
	for _, s := range x.o.Doc.Fields {
		l += len(s)
	}
	if most := 60 * (b.m.Len() + 16) * (l + 16); count > most {
		b.t.Fatalf("%+v: %d accesses, more than %d", x.o, count, most)
	}
}

// settle makes the stores of a roll in the memory, and its writer.
func (b *bench) settle(l []store) {
	b.t.Helper()
	for _, s := range l {
		b.m.Store(s.a, s.v)
		b.want[s.a] = s.v
	}
	b.w = b.x.writer()
	b.seen = seenBy(b.want, b.c.Docs, b.want[1]) // under other numbers
	if ids := idsOf(b.seen); !slices.Equal(ids, b.x.alive()) {
		b.t.Fatalf("sealed: the version %d sees %v, want %v", b.want[1], ids, b.x.alive())
	}
}

// add, del and roll are operations.
func add(id uint32, fields ...string) api.Op {
	return api.Op{Kind: api.Add, Doc: api.Doc{Id: id, Fields: fields}}
}

func del(id uint32) api.Op {
	return api.Op{Kind: api.Delete, Id: id}
}

func roll() api.Op {
	return api.Op{Kind: api.Roll}
}

// all does operations, each of which must answer OK.
func (b *bench) all(l ...api.Op) {
	b.t.Helper()
	for _, o := range l {
		b.wants(api.OK, o)
	}
}

// wants does an operation, and holds its error against the one wanted.
func (b *bench) wants(err api.Errno, o api.Op) {
	b.t.Helper()
	if got := b.do(o); got != err {
		b.t.Fatalf("%+v: %v, want %v", o, got, err)
	}
}
