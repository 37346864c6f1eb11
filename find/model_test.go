package find_test

import (
	"cmp"
	"math"
	"slices"
	"testing"

	"plover/api"
	"plover/block"
	"plover/image"
	"plover/mem"
)

// dice are numbers that only look random: the same ones in each run.
type dice uint64

func (d *dice) roll(n int) int {
	*d = *d*6364136223846793005 + 1442695040888963407
	return int(uint64(*d) >> 33 % uint64(n))
}

// any is any cell, often one at an end.
func (d *dice) any() uint32 {
	switch d.roll(4) {
	case 0:
		return []uint32{0, 1, 65535, 65536, 1 << 31, math.MaxUint32}[d.roll(6)]
	case 1:
		return uint32(d.roll(300))
	}
	return uint32(d.roll(1<<31))<<1 | uint32(d.roll(2))
}

// rising is n numbers from 0 to most - 1 that rise; n is at most most.
func (d *dice) rising(n, most int) []int {
	var l []int
	for i := range n {
		least := 0
		if i > 0 {
			least = l[i-1] + 1
		}
		room := most - (n - i - 1) - least
		if d.roll(2) == 0 {
			room = (room + n - 1) / n
		}
		l = append(l, least+d.roll(room))
	}
	return l
}

// entries are n of a list of a segment with so many rows, with a few places each, now and then with many.
func (d *dice) entries(n, rows int) []api.Entry {
	var l []api.Entry
	for _, doc := range d.rising(n, rows) {
		count := 1 + d.roll(3)
		if d.roll(60) == 0 {
			count = 1 + d.roll(256)
		}
		l = append(l, api.Entry{Doc: doc, Pos: d.rising(count, 65536)})
	}
	return l
}

// key is any text of at most so many bytes, of few kinds of them, so that many begin alike.
func (d *dice) key(most int) string {
	b := make([]byte, d.roll(most+1))
	for i := range b {
		b[i] = []byte{0, 1, 'a', 'b', 127, 128, 195, 255}[d.roll(8)]
	}
	if len(b) > 6 && d.roll(2) == 0 {
		copy(b, "\x00aaaaaaaaaaaaa")
	}
	return string(b)
}

// keys are n texts of at most so many bytes that rise.
func (d *dice) keys(n, most int) []string {
	seen := map[string]int{}
	for len(seen) < n {
		seen[d.key(most)] = 0
	}
	var l []string
	for k := range seen {
		l = append(l, k)
	}
	slices.Sort(l)
	return l
}

// content is a segment's.
type content struct {
	rows  []api.Row
	lists []api.List
}

// rowsOf is n rows, none of whose cells is like another one.
func rowsOf(n int) []api.Row {
	var l []api.Row
	for i := range uint32(n) {
		l = append(l, api.Row{Birth: 1 + i, Id: 1000 + i, Length: 2000 + i, Tomb: 3000 + i})
	}
	return l
}

// contentOf is one with so many rows and a list of each key, with any entries; without rows it has no lists.
func (d *dice) contentOf(rows int, keys []string) content {
	c := content{rows: rowsOf(rows)}
	if rows == 0 {
		return c
	}
	for _, k := range keys {
		n := 1 + d.roll(min(rows, 6))
		if d.roll(12) == 0 {
			n = 1 + d.roll(rows)
		}
		c.lists = append(c.lists, api.List{Key: k, Entries: d.entries(n, rows)})
	}
	return c
}

// cellsOf is a text as the chapter on cells tells of it, by the values of its bytes' places.
func cellsOf(key string) []uint32 {
	var l []uint32
	for ; key != ""; key = key[min(4, len(key)):] {
		var v uint32
		for i, weight := range []uint32{1, 1 << 8, 1 << 16, 1 << 24} {
			if i < len(key) {
				v += weight * uint32(key[i])
			}
		}
		l = append(l, v)
	}
	return l
}

// world is a memory with the image of a content at an address, and with its lists' records.
type world struct {
	m  *mem.Mem
	at int
	c  content
}

// memory has these cells.
func memory(t *testing.T, cells []uint32) *mem.Mem {
	t.Helper()
	m, err := mem.New(len(cells))
	if err != api.OK {
		t.Fatalf("New(%d) = %v", len(cells), err)
	}
	for a, v := range cells {
		m.Store(a, v)
	}
	return m
}

// world lays a content at an address, and its records ahead of it, if they have room there, else behind it, in any order. All other cells are any.
func (d *dice) world(t *testing.T, at int, c content) world {
	t.Helper()
	c.lists = slices.Clone(c.lists)
	book := 0
	for i := range c.lists {
		c.lists[i].Record = 1
		book += 2 + len(cellsOf(c.lists[i].Key))
	}
	size := image.Size(c.rows, c.lists)
	next, end := 1, at+size+3
	if at < 1+book {
		next, end = at+size, at+size+book+3
	}
	cells := make([]uint32, end)
	for a := range cells {
		cells[a] = d.any()
	}
	for _, i := range d.shuffled(len(c.lists)) {
		l := &c.lists[i]
		l.Record = next
		cells[next+1] = uint32(len(l.Key))
		copy(cells[next+2:], cellsOf(l.Key))
		next += 2 + len(cellsOf(l.Key))
	}
	own, err := image.Make(at, c.rows, c.lists)
	if err != api.OK {
		t.Fatalf("Make(%d) of %d rows and %d lists: %v", at, len(c.rows), len(c.lists), err)
	}
	copy(cells[at:], own)
	return world{m: memory(t, cells), at: at, c: c}
}

// shuffled are the numbers below n in any order.
func (d *dice) shuffled(n int) []int {
	type turn struct{ i, at int }
	var l []turn
	for i := range n {
		l = append(l, turn{i, d.roll(1 << 30)})
	}
	slices.SortFunc(l, func(a, b turn) int { return cmp.Compare(a.at, b.at) })
	var order []int
	for _, x := range l {
		order = append(order, x.i)
	}
	return order
}

// cellsOfList are a list's own.
func cellsOfList(t *testing.T, entries []api.Entry) []uint32 {
	t.Helper()
	cells, err := block.Encode(entries)
	if err != api.OK {
		t.Fatalf("Encode(%v) = %v", entries, err)
	}
	return cells
}

// addresses are those of the lists' own cells, which stand one behind the other.
func (w world) addresses(t *testing.T) []int {
	t.Helper()
	a := w.at + 2 + 4*len(w.c.rows) + 2*len(w.c.lists)
	var l []int
	for _, x := range w.c.lists {
		l = append(l, a)
		a += len(cellsOfList(t, x.Entries))
	}
	return l
}

// modelTerm goes over all lists, whatever their order is.
func modelTerm(c content, addresses []int, key string) int {
	for i, l := range c.lists {
		if l.Key == key {
			return addresses[i]
		}
	}
	return 0
}

// modelList is each entry whose Doc is below most.
func modelList(l []api.Entry, most int) []api.Entry {
	var below []api.Entry
	for _, e := range l {
		if e.Doc < most {
			below = append(below, e)
		}
	}
	return below
}

// reach is how many cells of a list's own may be read at most, and how many of them tell how many entries there are, and of the blocks: all up to the last byte of the first block whose last Doc is most - 1 or more, or of the last block.
func reach(cells []uint32, most int) (all, told int) {
	told = 1 + int(cells[0]+3)/4
	for i := 1; i+1 < told; i++ {
		if last := int(cells[i] >> 16); last+1 >= most {
			behind := int(cells[i+1] & 65535) // the byte with which the next block begins
			return told + (behind+3)/4, told
		}
	}
	return len(cells), told
}

// same tells whether two lists of entries are the same.
func same(x, y []api.Entry) bool {
	return slices.EqualFunc(x, y, func(a, b api.Entry) bool {
		return a.Doc == b.Doc && slices.Equal(a.Pos, b.Pos)
	})
}
