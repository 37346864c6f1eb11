package find_test

import (
	"fmt"
	"math"
	"slices"
	"strings"
	"testing"

	"plover/api"
	"plover/find"
	"plover/image"
	"plover/mem"
	"plover/step"
)

// most is within how many accesses each part ends on any memory, and mostOfTerm on one with an image.
const (
	most       = 70000
	mostOfTerm = 100
)

// run goes on with a program to its end. Each Step makes one access, nothing is stored, and none is made behind so many.
func run(t *testing.T, m *mem.Mem, program func(r *step.Run)) *step.Run {
	t.Helper()
	r := step.New(m)
	loads, stores := m.Loads(), m.Stores()
	for n := 1; !r.Step(program); n++ {
		if r.Count() != n || n > most {
			t.Fatalf("behind %d Steps: %d accesses", n, r.Count())
		}
	}
	if m.Loads()-loads != r.Count() || m.Stores() != stores {
		t.Fatalf("of %d accesses %d loads and %d stores", r.Count(), m.Loads()-loads, m.Stores()-stores)
	}
	return r
}

// done runs a program that must come to no missing cell: how many accesses it made.
func done(t *testing.T, m *mem.Mem, program func(r *step.Run)) int {
	t.Helper()
	r := run(t, m, program)
	if r.Err() != api.OK {
		t.Fatalf("the run behind %d accesses: %v", r.Count(), r.Err())
	}
	return r.Count()
}

func docs(t *testing.T, m *mem.Mem, a int) int {
	t.Helper()
	var got int
	done(t, m, func(r *step.Run) { got = find.Docs(r, a) })
	return got
}

// term is what Term answers, which makes few accesses.
func term(t *testing.T, m *mem.Mem, a int, key string) int {
	t.Helper()
	var got int
	if n := done(t, m, func(r *step.Run) { got = find.Term(r, a, key) }); n > mostOfTerm {
		t.Errorf("Term(%d, %q) made %d accesses", a, key, n)
	}
	return got
}

func list(t *testing.T, m *mem.Mem, list, most int) []api.Entry {
	t.Helper()
	var got []api.Entry
	done(t, m, func(r *step.Run) { got = find.List(r, list, most) })
	return got
}

func wantDocs(t *testing.T, m *mem.Mem, a, want int) {
	t.Helper()
	if got := docs(t, m, a); got != want {
		t.Errorf("Docs(%d) = %d; want %d", a, got, want)
	}
}

func wantTerm(t *testing.T, m *mem.Mem, a int, key string, want int) {
	t.Helper()
	if got := term(t, m, a, key); got != want {
		t.Errorf("Term(%d, %q) = %d; want %d", a, key, got, want)
	}
}

func wantList(t *testing.T, m *mem.Mem, a, most int, want ...api.Entry) {
	t.Helper()
	if got := list(t, m, a, most); !same(got, want) {
		t.Errorf("List(%d, %d) = %v; want %v", a, most, got, want)
	}
}

// wantCells: the whole memory is as it was.
func wantCells(t *testing.T, m *mem.Mem, want []uint32) {
	t.Helper()
	for a, v := range m.Cells() {
		if v != want[a] {
			t.Fatalf("the cell %d holds %d; want %d", a, v, want[a])
		}
	}
}

// entry is one of a list.
func entry(doc int, pos ...int) api.Entry {
	return api.Entry{Doc: doc, Pos: pos}
}

// ends are the least numbers of all, and the greatest.
var ends = []int{math.MinInt, math.MinInt + 1, math.MinInt32, -65536, -2, -1, 0, 1, 2, 65535, 65536, 65537, math.MaxInt32, math.MaxInt - 1, math.MaxInt}

// mosts are those with which a list of a segment with so many rows is asked for: the ends, each entry's Doc and what is beside it, the number of rows.
func mosts(l []api.Entry, rows int) []int {
	all := append([]int{rows - 1, rows, rows + 1}, ends...)
	for _, e := range l {
		all = append(all, e.Doc-1, e.Doc, e.Doc+1, e.Doc+2)
	}
	slices.Sort(all)
	return slices.Compact(all)
}

// others are keys about one: just above it, shorter, longer, with a byte turned.
func others(key string) []string {
	l := []string{key + "\x00", key + "\xff", key + "\x00\x00\x00\x00", key + strings.Repeat("q", 40), "\x00" + key}
	for i := range len(key) {
		l = append(l, key[:i])
		for _, by := range []byte{1, 127, 128, 255} {
			b := []byte(key)
			b[i] += by
			l = append(l, string(b))
		}
	}
	return l
}

// strangers are keys that are few images' own.
func strangers() []string {
	l := []string{"", "\x00", "\x00\x00", "\xff", "a", "fox", "\x00fox", strings.Repeat("\xff", 17), strings.Repeat("\x00", 17), strings.Repeat("\xff", 18), strings.Repeat("a", 300)}
	return append(l, strings.Repeat("z", 4096), strings.Repeat("z", 4097), strings.Repeat("a", 70000))
}

// held holds all that is read of a world against the model, and looks whether all is left as it was.
func held(t *testing.T, w world, keys ...string) {
	t.Helper()
	cells := w.m.Cells()
	wantDocs(t, w.m, w.at, len(w.c.rows))
	addresses := w.addresses(t)
	for _, key := range keys {
		wantTerm(t, w.m, w.at, key, modelTerm(w.c, addresses, key))
	}
	for i, l := range w.c.lists {
		wantTerm(t, w.m, w.at, l.Key, addresses[i])
		for _, most := range mosts(l.Entries, len(w.c.rows)) {
			wantList(t, w.m, addresses[i], most, modelList(l.Entries, most)...)
		}
	}
	wantCells(t, w.m, cells)
}

// P15.1: the chapter's example.
func TestExample(t *testing.T) {
	cells := make([]uint32, 21)
	copy(cells[5:], []uint32{0, 4, 0x786F6600})
	copy(cells[10:], []uint32{2, 1, 1, 7, 2, 0, 5, 18, 1, 0, 0x010100})
	m := memory(t, cells)
	wantDocs(t, m, 10, 1)
	wantTerm(t, m, 10, "\x00fox", 18)
	for _, key := range append(others("\x00fox"), strangers()...) {
		if key != "\x00fox" {
			wantTerm(t, m, 10, key, 0)
		}
	}
	wantList(t, m, 18, 1, entry(0, 1))
	wantList(t, m, 18, 0)
	wantCells(t, m, cells)
}

// P15.1: a memory that is written out, with the records in another order than the lists; the second list is of two blocks.
func TestCells(t *testing.T) {
	cells := make([]uint32, 60)
	copy(cells[3:], []uint32{77, 2, 0xFF00})       // the key 0, 255
	copy(cells[6:], []uint32{0, 0})                // the key without bytes
	copy(cells[8:], []uint32{78, 5, 0x636261, 97}) // the key a, b, c, 0, a
	rows := 8
	copy(cells[12:], []uint32{9, 3})
	heads := 14 + 4*rows
	lists := heads + 6
	copy(cells[heads:], []uint32{6, uint32(lists), 3, uint32(lists + 3), 8, uint32(lists)})
	m := memory(t, slices.Concat(cells[:lists], []uint32{
		1, 7 << 16, 0x00_00_01_07, // the Doc 7: the place 0
		5, 3 << 16, 7<<16 + 14,
		0x01_80_01_00, // the Doc 0: the place 128
		0x01_05_01_01, // 1: 5; and 1 more
		0x01_02_01_02, // is 2: two places, 1 and 3; and 1 more
		0x02_07_06_01, // is 3: 6; and the next block: 7: two places
		0x03_FF_FE_01, // 1 and 65535
	}))
	wantDocs(t, m, 12, rows)
	wantTerm(t, m, 12, "", lists)
	wantTerm(t, m, 12, "\x00\xff", lists+3)
	wantTerm(t, m, 12, "abc\x00a", lists)
	for _, key := range []string{"\x00", "\x00\xfe", "\x00\xff\x00", "\x01", "abc\x00", "abc", "abc\x00b", "abc\x00a\x00", "abd", "\xff"} {
		wantTerm(t, m, 12, key, 0)
	}
	wantList(t, m, lists, 8, entry(7, 0))
	wantList(t, m, lists, 7)
	all := []api.Entry{entry(0, 128), entry(1, 5), entry(2, 1, 3), entry(3, 6), entry(7, 1, 65535)}
	for most := range 12 {
		wantList(t, m, lists+3, most, modelList(all, most)...)
	}
}

// P15.1: Docs of images of no rows, one, some, and 64; it is what the cell holds less 1, whatever stands about it, also of one that holds 0.
func TestDocs(t *testing.T) {
	for _, rows := range []int{0, 1, 2, 63, 64} {
		for _, at := range []int{0, 1, 500} {
			d := dice(rows + at)
			w := d.world(t, at, d.contentOf(rows, []string{"a", "b"}))
			wantDocs(t, w.m, at, rows)
			r := step.New(w.m)
			if !r.Step(func(r *step.Run) { find.Docs(r, at) }) || r.Count() != 1 {
				t.Errorf("Docs made %d accesses", r.Count())
			}
		}
	}
	for _, v := range []uint32{0, 1, 2, 65, 66, 65535, 65536, 1 << 31, math.MaxUint32} {
		m := memory(t, []uint32{99, v, 98})
		wantDocs(t, m, 1, int(v)-1)
	}
}

// inOrder are n keys that rise, without any that is another one's beginning.
func inOrder(n int) []string {
	var l []string
	for i := range n {
		l = append(l, fmt.Sprintf("\x01k%04d", 2*i))
	}
	return l
}

// P15.1, P15.2: Term of each number of lists: each Key in turn, one below the first, one between each two, one above the last.
func TestTermCounts(t *testing.T) {
	counts := []int{100, 127, 128, 129, 200, 254, 255, 256}
	for n := range 35 {
		counts = append(counts, n)
	}
	for _, n := range counts {
		d := dice(n)
		w := d.world(t, 2000, d.contentOf(3, inOrder(n)))
		addresses := w.addresses(t)
		cells := w.m.Cells()
		for i := range n {
			wantTerm(t, w.m, w.at, w.c.lists[i].Key, addresses[i])
			wantTerm(t, w.m, w.at, fmt.Sprintf("\x01k%04d", 2*i+1), 0)
		}
		for _, key := range append(strangers(), "\x01k", "\x01k0000\x00", "\x01k000", "\x01k9999", "\x01j", "\x01l") {
			wantTerm(t, w.m, w.at, key, 0)
		}
		wantCells(t, w.m, cells)
	}
}

// P15.1, P15.2: Keys that are others' beginnings, the empty one, such of all lengths up to 17 bytes, and bytes of all values.
func TestTermKeys(t *testing.T) {
	long := "\x02abcdefghijklmnop"
	var lengths, bytes, zeros []string
	for n := range 18 {
		lengths = append(lengths, long[:n])
		zeros = append(zeros, strings.Repeat("\x00", n))
	}
	for b := range 256 {
		bytes = append(bytes, string([]byte{byte(b)}))
	}
	var tails []string
	for b := range 256 {
		tails = append(tails, long[:16]+string([]byte{byte(b)}))
	}
	high := []string{"\x7f", "\x7f\xff", "\x80", "\x80\x00", "\x80\x7f", "\x80\x80", "\xc3\xa9", "\xfe\xff\xff\xff", "\xff", "\xff\x00", "\xff\xff\xff\xff", "\xff\xff\xff\xff\x80"}
	for i, keys := range [][]string{{""}, {"", "\x00"}, lengths, zeros, bytes, tails, high, lengths[1:], zeros[5:]} {
		d := dice(i)
		w := d.world(t, 1+d.roll(4000), d.contentOf(2, keys))
		addresses := w.addresses(t)
		all := append(strangers(), keys...)
		for _, k := range keys {
			all = append(all, others(k)...)
		}
		for _, key := range all {
			wantTerm(t, w.m, w.at, key, modelTerm(w.c, addresses, key))
		}
	}
}

// P15.1: Keys that are longer than any term's are found, too, and don't hide others.
func TestTermLongKeys(t *testing.T) {
	var keys []string
	for i := range 256 {
		keys = append(keys, fmt.Sprintf("\x00the same beginning of all%05d", i)+strings.Repeat("q", i%2))
	}
	for i, l := range [][]string{keys, {"", strings.Repeat("a", 300), strings.Repeat("a", 301), "b"}, {"\x00a", "\x00a" + strings.Repeat("b", 20), "\x00b"}} {
		d := dice(i)
		w := d.world(t, 9, d.contentOf(2, l))
		addresses := w.addresses(t)
		for i, key := range l {
			if got := termOfLong(t, w.m, w.at, key); got != addresses[i] {
				t.Errorf("Term of %q = %d; want %d", key, got, addresses[i])
			}
		}
	}
}

// termOfLong is what Term answers, whose accesses are few where no key has more than 32 bytes.
func termOfLong(t *testing.T, m *mem.Mem, a int, key string) int {
	t.Helper()
	if len(key) <= 32 {
		return term(t, m, a, key)
	}
	var got int
	done(t, m, func(r *step.Run) { got = find.Term(r, a, key) })
	return got
}

// sized is a list of n entries of which the i-th has 1 + i%3 places, the Docs being by so much apart.
func sized(n, apart int) []api.Entry {
	var l []api.Entry
	for i := range n {
		e := entry(i * apart)
		for k := range 1 + i%3 {
			e.Pos = append(e.Pos, i+200*k)
		}
		l = append(l, e)
	}
	return l
}

// lists are some that layer 13 has: of each number of entries, with great Docs and places, with as many places as may be.
func lists() [][]api.Entry {
	all := [][]api.Entry{
		{entry(0, 0)}, {entry(65535, 65535)}, {entry(0, 0), entry(65535, 0, 65535)},
		{entry(127, 127), entry(128, 128), entry(16383, 16383), entry(16384, 16384), entry(16385, 16385)},
	}
	for _, n := range []int{0, 1, 2, 3, 4, 5, 7, 8, 9, 12, 13, 63, 64} {
		all = append(all, sized(n, 1), sized(n, 2), sized(n, 1023))
	}
	whole := entry(3)
	for i := range 256 {
		whole.Pos = append(whole.Pos, 255*i)
	}
	return append(all, []api.Entry{entry(1, 2), whole, entry(4, 5)}, []api.Entry{whole})
}

// P15.1: List of lists of all sizes, at several addresses, for each most.
func TestList(t *testing.T) {
	for i, l := range lists() {
		d := dice(i)
		own := cellsOfList(t, l)
		at := d.roll(20)
		cells := make([]uint32, at+len(own)+d.roll(5))
		for a := range cells {
			cells[a] = d.any()
		}
		copy(cells[at:], own)
		m := memory(t, cells)
		for _, most := range mosts(l, 64) {
			wantList(t, m, at, most, modelList(l, most)...)
		}
		wantCells(t, m, cells)
	}
}

// P15.1, P15.2: List reads how many entries there are, then what is told of the blocks, in order; and no cell of a block behind one whose last Doc is most - 1 or more.
func TestListReads(t *testing.T) {
	for _, l := range lists() {
		own := cellsOfList(t, l)
		for _, most := range mosts(l, 64) {
			for _, at := range []int{0, 7} {
				wantReads(t, append(make([]uint32, at), own...), at, most, modelList(l, most))
			}
		}
	}
}

// wantReads holds the accesses of a List of the list whose cells are the last ones against the chapter's words.
// Of a memory that ends ahead of a cell the run ends at the first access from there on: so each such memory tells how many accesses there are ahead of it.
func wantReads(t *testing.T, cells []uint32, at, most int, want []api.Entry) {
	t.Helper()
	all, told := reach(cells[at:], most)
	for n := range told {
		if at+n == 0 {
			continue // no memory is without cells
		}
		r := run(t, memory(t, cells[:at+n]), func(r *step.Run) { find.List(r, at, most) })
		if r.Count() != n || r.Err() != api.ErrBounds {
			t.Fatalf("List(%d, %d) of %v without the cells from the %d-th on: %d accesses, %v", at, most, cells[at:], n, r.Count(), r.Err())
		}
	}
	m := memory(t, cells[:at+all])
	wantList(t, m, at, most, want...)
	var n int
	r := run(t, memory(t, cells), func(r *step.Run) { find.List(r, at, most) })
	if n = r.Count(); n < told || n > all {
		t.Fatalf("List(%d, %d): %d accesses of %d cells, of which %d tell of the blocks", at, most, n, all, told)
	}
	r = run(t, memory(t, cells[:at+told]), func(r *step.Run) { find.List(r, at, most) })
	if r.Count() != told {
		t.Fatalf("List(%d, %d): %d accesses ahead of the bytes, of %d", at, most, r.Count(), told)
	}
}

// P15.2: a block's cells are not read where most is 0 or less: it has no entry that is asked for.
func TestListOfNone(t *testing.T) {
	for _, l := range lists() {
		own := cellsOfList(t, l)
		_, told := reach(own, 0)
		for _, most := range []int{math.MinInt, -1, 0} {
			m := memory(t, own[:told])
			wantList(t, m, 0, most)
		}
	}
}

// P15.1, P15.2: images at several addresses, also where the memory ends with them.
func TestAddresses(t *testing.T) {
	d := dice(5)
	c := d.contentOf(6, []string{"\x00a", "\x00b", "\x01a"})
	for i := range c.lists {
		c.lists[i].Entries = d.entries(1+2*i, 6)
	}
	size := image.Size(c.rows, recorded(c.lists))
	for _, at := range []int{0, 1, 2, 10, 1000, 65000, 65536 - size - 20} {
		held(t, d.world(t, at, c), append(others("\x00b"), strangers()...)...)
	}
	cells := make([]uint32, 65536)
	book := []int{3, 9, 20}
	for i, l := range c.lists {
		c.lists[i].Record = book[i]
		cells[book[i]+1] = 2
		copy(cells[book[i]+2:], cellsOf(l.Key))
	}
	at := len(cells) - size
	own, _ := image.Make(at, c.rows, c.lists)
	copy(cells[at:], own)
	held(t, world{m: memory(t, cells), at: at, c: c}, strangers()...)
}

// recorded are lists with records, so that they may be.
func recorded(l []api.List) []api.List {
	l = slices.Clone(l)
	for i := range l {
		l[i].Record = 1
	}
	return l
}

// P15.1, P15.2: many contents, all that is read of each held against the model.
func TestContents(t *testing.T) {
	for i := range 150 {
		d := dice(1000 + i)
		rows, count := d.roll(65), d.roll(30)
		if i%25 == 0 {
			rows, count = 64, 200+d.roll(57)
		}
		w := d.world(t, d.roll(3000), d.contentOf(rows, d.keys(count, 17)))
		asked := strangers()
		for range 60 {
			asked = append(asked, d.key(18))
		}
		for _, l := range w.c.lists[:min(len(w.c.lists), 10)] {
			asked = append(asked, others(l.Key)...)
		}
		held(t, w, asked...)
	}
}
