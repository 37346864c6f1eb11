package roll_test

import (
	"maps"
	"slices"
	"testing"

	"plover/api"
	"plover/pack"
	"plover/pool"
	"plover/token"
)

// store is a cell that is stored, and what.
type store struct {
	a int
	v uint32
}

// row is birth, id, length and tomb.
type row [4]uint32

// doc is a document as a segment has it.
type doc struct {
	row   row
	words []api.Tok
}

// term is one of a segment's: its record, its tail, the class of the slab there, and how many words still go into that.
type term struct{ record, tail, class, left int }

// segment is one with what was added to it.
type segment struct {
	addr   int
	sealed bool
	docs   []doc
	terms  map[string]term
}

// base is where its rows begin.
func (s segment) base() int {
	if s.sealed {
		return s.addr + 2
	}
	return s.addr + 1
}

// lists are those of its content: of each term that has words, of each document that has it, its places.
func (s segment) lists() []api.List {
	var l []api.List
	for _, key := range slices.Sorted(maps.Keys(s.terms)) {
		var entries []api.Entry
		for d := range s.docs {
			if pos := s.docs[d].places(key); len(pos) > 0 {
				entries = append(entries, api.Entry{Doc: d, Pos: pos})
			}
		}
		if len(entries) > 0 {
			l = append(l, api.List{Key: key, Record: s.terms[key].record, Entries: entries})
		}
	}
	return l
}

func (d doc) places(key string) []int {
	var l []int
	for _, t := range d.words {
		if t.Field == key[0] && t.Text == key[1:] {
			l = append(l, t.Pos)
		}
	}
	return l
}

// model is what a writer has done, by the chapters' words. It goes word by word and cell by cell, and looks behind them whether the pools have had so much: it plans nothing, and asks no layer from 9 on.
type model struct {
	c       api.Conf
	p       api.Plan
	used    [api.Pools]int
	version uint32
	segs    []segment
}

// laid is the plan of a configuration that may be.
func laid(t *testing.T, c api.Conf) api.Plan {
	t.Helper()
	p, err := pool.Lay(c)
	if err != api.OK {
		t.Fatalf("Lay of %+v: %v", c, err)
	}
	return p
}

// newModel is one at its beginning, and what is stored then.
func newModel(t *testing.T, c api.Conf) (*model, []store) {
	t.Helper()
	x := &model{c: c, p: laid(t, c)}
	live := x.begin()
	manifest := x.take(api.Room, 2)
	return x, []store{{manifest, 1}, {manifest + 1, uint32(live)}, {2, uint32(manifest)}}
}

// take takes cells of a pool, whether there are so many or not.
func (x *model) take(k, n int) int {
	a := x.p.Base[k] + x.used[k]
	x.used[k] += n
	return a
}

// full tells whether more was taken than there is.
func (x *model) full() bool {
	for k, n := range x.used {
		if n > x.p.Size[k] {
			return true
		}
	}
	return false
}

// begin takes a new live segment: its address.
func (x *model) begin() int {
	a := x.take(api.Room, x.p.Live)
	x.segs = append(x.segs, segment{addr: a, terms: map[string]term{}})
	return a
}

// live is the last segment.
func (x *model) live() *segment {
	return &x.segs[len(x.segs)-1]
}

func (x *model) clone() *model {
	y := *x
	y.segs = nil
	for _, s := range x.segs {
		s.docs, s.terms = slices.Clone(s.docs), maps.Clone(s.terms)
		y.segs = append(y.segs, s)
	}
	return &y
}

// writer is what a writer knows that did all this.
func (x *model) writer() api.Writer {
	w := api.Writer{Terms: len(x.live().terms), Version: x.version, Used: x.used}
	for _, s := range x.segs {
		w.Segs = append(w.Segs, api.Seg{Addr: s.addr, Docs: len(s.docs), Sealed: s.sealed})
	}
	return w
}

// do is what an operation stores, in order, and its error.
func (x *model) do(o api.Op) ([]store, api.Errno) {
	switch o.Kind {
	case api.Add:
		return x.add(o.Doc)
	case api.Delete:
		return x.del(o.Id)
	}
	return x.roll()
}

func (x *model) add(d api.Doc) ([]store, api.Errno) {
	words, err := token.Tokens(d.Fields)
	if err != api.OK {
		return nil, err
	}
	if _, r := x.find(d.Id); r != nil {
		return nil, api.ErrDup
	}
	if len(x.live().docs) == x.c.Docs || x.termsWith(words) > x.c.Terms {
		return nil, api.ErrSegFull
	}
	y := x.clone()
	l := y.place(d.Id, words)
	if y.full() {
		return nil, api.ErrFull
	}
	*x = *y
	return l, api.OK
}

// find is where an id's row begins, and the row; nil, if there is none.
func (x *model) find(id uint32) (int, *row) {
	for _, s := range x.segs {
		for d := range s.docs {
			if s.docs[d].row[1] == id {
				return s.base() + 4*d, &s.docs[d].row
			}
		}
	}
	return 0, nil
}

// termsWith is how many terms the live segment would have with these words.
func (x *model) termsWith(words []api.Tok) int {
	all := maps.Clone(x.live().terms)
	for _, t := range words {
		all[pack.Key(t.Field, t.Text)] = term{}
	}
	return len(all)
}

// place adds a document to the live segment, whatever stands against it.
func (x *model) place(id uint32, words []api.Tok) []store {
	s := x.live()
	n := len(s.docs)
	var l []store
	for _, t := range words {
		l = append(l, x.word(pack.Key(t.Field, t.Text), uint32(65536*n+t.Pos))...)
	}
	x.version++
	b, length := s.base()+4*n, uint32(len(words))
	s.docs = append(s.docs, doc{row{x.version, id, length}, words})
	return append(l, store{b + 1, id}, store{b + 2, length}, store{b, x.version}, store{1, x.version})
}

// word adds one of a document's.
func (x *model) word(key string, place uint32) []store {
	var l []store
	if _, ok := x.live().terms[key]; !ok {
		l = x.enter(key)
	}
	e := x.live().terms[key]
	if e.left == 0 {
		e.class = min(e.class+1, 3)
		size := []int{4, 16, 64, 256}[e.class]
		link := x.take(e.class, size)
		if e.tail > 0 {
			l = append(l, store{link, uint32(e.tail)})
		}
		e.tail, e.left = link, size-1
	}
	e.tail, e.left = e.tail+1, e.left-1
	x.live().terms[key] = e
	return append(l, store{e.tail, place}, store{e.record, uint32(e.tail)})
}

// enter puts a term into the live segment's dictionary, without words: into the first slot from its hash on that none of the others has.
func (x *model) enter(key string) []store {
	s := x.live()
	cells := cellsOf([]byte(key))
	record := x.take(api.Book, 2+len(cells))
	l := []store{{record + 1, uint32(len(key))}}
	for k, v := range cells {
		l = append(l, store{record + 2 + k, v})
	}
	taken := map[int]bool{}
	for _, other := range s.byRecord() {
		taken[slotOf(other, x.p.Slots, taken)] = true
	}
	slot := slotOf(key, x.p.Slots, taken)
	s.terms[key] = term{record: record, class: -1}
	return append(l, store{s.base() + 4*x.c.Docs + slot, uint32(record)})
}

// byRecord are a segment's terms in the order in which they came.
func (s segment) byRecord() []string {
	return slices.SortedFunc(maps.Keys(s.terms), func(a, b string) int { return s.terms[a].record - s.terms[b].record })
}

// slotOf is the slot of a key, where these are taken.
func slotOf(key string, n int, taken map[int]bool) int {
	slot := int(pack.Hash(key) % uint32(n))
	for taken[slot] {
		slot = (slot + 1) % n
	}
	return slot
}

func (x *model) del(id uint32) ([]store, api.Errno) {
	a, r := x.find(id)
	if r == nil || r[3] != 0 {
		return nil, api.ErrNoDoc
	}
	x.version++
	r[3] = x.version
	return []store{{a + 3, x.version}, {1, x.version}}, api.OK
}

// roll seals the live segment.
func (x *model) roll() ([]store, api.Errno) {
	y := x.clone()
	s := y.live()
	var l []store
	cells := imageOf(y.p.Base[api.Room]+y.used[api.Room], *s)
	s.addr, s.sealed = y.take(api.Room, len(cells)), true
	for i, v := range cells {
		l = append(l, store{s.addr + i, v})
	}
	y.begin()
	manifest := y.take(api.Room, 1+len(y.segs))
	l = append(l, store{manifest, uint32(len(y.segs))})
	for i, s := range y.segs {
		l = append(l, store{manifest + 1 + i, uint32(s.addr)})
	}
	if y.full() {
		return nil, api.ErrFull
	}
	*x = *y
	return append(l, store{2, uint32(manifest)}), api.OK
}

// imageOf is a segment's content as cells, at an address.
func imageOf(at int, s segment) []uint32 {
	lists := s.lists()
	cells := []uint32{uint32(1 + len(s.docs)), uint32(len(lists))}
	for _, d := range s.docs {
		cells = append(cells, d.row[:]...)
	}
	next := at + len(cells) + 2*len(lists)
	var own []uint32
	for _, l := range lists {
		cells = append(cells, uint32(l.Record), uint32(next+len(own)))
		own = append(own, listCells(l.Entries)...)
	}
	return append(cells, own...)
}

// listCells are a list's: how many entries, what is told of the blocks, the bytes.
func listCells(l []api.Entry) []uint32 {
	cells := []uint32{uint32(len(l))}
	var b []byte
	for i, e := range l {
		ahead := 0
		if i%4 > 0 {
			ahead = l[i-1].Doc
		} else {
			cells = append(cells, uint32(65536*l[min(i+3, len(l)-1)].Doc+len(b)))
		}
		b = append(b, sevens(e.Doc-ahead)...)
		b = append(b, sevens(len(e.Pos))...)
		ahead = 0
		for _, p := range e.Pos {
			b = append(b, sevens(p-ahead)...)
			ahead = p
		}
	}
	return append(cells, cellsOf(b)...)
}

// sevens are a number's bytes.
func sevens(n int) []byte {
	if n < 128 {
		return []byte{byte(n)}
	}
	return append([]byte{byte(128 + n%128)}, sevens(n/128)...)
}

// cellsOf are bytes, four in each cell.
func cellsOf(b []byte) []uint32 {
	cells := make([]uint32, (len(b)+3)/4)
	for i, v := range b {
		cells[i/4] += uint32(v) << (8 * (i % 4))
	}
	return cells
}

// content is what a segment has for whoever looks: its rows, and each term's places.
type content struct {
	rows   []row
	places map[string][]api.Entry
}

// contents are the segments' by what was done.
func (x *model) contents() []content {
	var all []content
	for _, s := range x.segs {
		c := content{places: map[string][]api.Entry{}}
		for _, d := range s.docs {
			c.rows = append(c.rows, d.row)
		}
		for _, l := range s.lists() {
			c.places[l.Key] = l.Entries
		}
		all = append(all, c)
	}
	return all
}

// contentsIn are the segments' as they are in a memory, from the cell 2 on.
func (x *model) contentsIn(l []uint32) []content {
	var all []content
	manifest := l[l[2]:]
	for _, a := range manifest[1:][:manifest[0]] {
		if l[a] == 0 {
			all = append(all, x.liveIn(l, a+1))
		} else {
			all = append(all, sealedIn(l, l[a:]))
		}
	}
	return all
}

// liveIn is a live segment whose rows begin at an address.
func (x *model) liveIn(l []uint32, base uint32) content {
	c := content{places: map[string][]api.Entry{}}
	rows := l[base:][:4*x.c.Docs]
	for ; len(rows) > 0 && rows[0] != 0; rows = rows[4:] {
		c.rows = append(c.rows, row(rows))
	}
	for _, record := range l[int(base)+4*x.c.Docs:][:x.p.Slots] {
		if record == 0 || l[record] == 0 {
			continue
		}
		c.places[keyIn(l[record:])] = x.placesIn(l, int(l[record]))
	}
	return c
}

// placesIn are those up to a tail, the oldest first.
func (x *model) placesIn(l []uint32, tail int) []api.Entry {
	var words []uint32
	for tail != 0 {
		words = append(words, l[tail])
		tail--
		if _, at := pool.Class(x.p, tail); at == 0 {
			tail = int(l[tail])
		}
	}
	slices.Reverse(words)
	var entries []api.Entry
	for i, w := range words {
		if i == 0 || w/65536 != words[i-1]/65536 {
			entries = append(entries, api.Entry{Doc: int(w / 65536)})
		}
		e := &entries[len(entries)-1]
		e.Pos = append(e.Pos, int(w%65536))
	}
	return entries
}

// sealedIn is a sealed segment whose image's cells are the first ones of these.
func sealedIn(l, image []uint32) content {
	c := content{places: map[string][]api.Entry{}}
	rest := image[2:]
	for range image[0] - 1 {
		c.rows = append(c.rows, row(rest))
		rest = rest[4:]
	}
	for range image[1] {
		c.places[keyIn(l[rest[0]:])] = listIn(l[rest[1]:])
		rest = rest[2:]
	}
	return c
}

// keyIn is the key of a record.
func keyIn(record []uint32) string {
	next := bytesIn(record[2:])
	b := make([]byte, record[1])
	for i := range b {
		b[i] = byte(next())
	}
	return string(b)
}

// listIn is a list that begins here.
func listIn(l []uint32) []api.Entry {
	n := int(l[0])
	next := bytesIn(l[1+(n+3)/4:])
	var entries []api.Entry
	for i := range n {
		var e api.Entry
		if i%4 > 0 {
			e.Doc = entries[i-1].Doc
		}
		e.Doc += numberIn(next)
		pos := 0
		for range numberIn(next) {
			pos += numberIn(next)
			e.Pos = append(e.Pos, pos)
		}
		entries = append(entries, e)
	}
	return entries
}

// bytesIn answers, call by call, the bytes that stand in cells.
func bytesIn(l []uint32) func() int {
	i := -1
	return func() int {
		i++
		return int(l[i/4] >> (8 * (i % 4)) & 255)
	}
}

// numberIn is the next number of bytes.
func numberIn(next func() int) int {
	if b := next(); b < 128 {
		return b
	} else {
		return b - 128 + 128*numberIn(next)
	}
}
