package image_test

import (
	"math"
	"slices"
	"strings"
	"testing"

	"plover/api"
	"plover/block"
	"plover/image"
)

// dice are numbers that only look random: the same ones in each run.
type dice uint64

func (d *dice) roll(n int) int {
	*d = *d*6364136223846793005 + 1442695040888963407
	return int(uint64(*d) >> 33 % uint64(n))
}

// any is any cell, often one at an end.
func (d *dice) any() uint32 {
	switch d.roll(4) {
	case 0:
		return []uint32{0, 1, 65535, 65536, 1 << 31, math.MaxUint32}[d.roll(6)]
	case 1:
		return uint32(d.roll(300))
	}
	return uint32(d.roll(1<<31))<<1 | uint32(d.roll(2))
}

// rising is n numbers from 0 to most - 1 that rise; n is at most most.
func (d *dice) rising(n, most int) []int {
	var l []int
	for i := range n {
		least := 0
		if i > 0 {
			least = l[i-1] + 1
		}
		room := most - (n - i - 1) - least
		if d.roll(2) == 0 {
			room = (room + n - 1) / n
		}
		l = append(l, least+d.roll(room))
	}
	return l
}

// entries are those of a list of a segment with so many rows.
func (d *dice) entries(rows int) []api.Entry {
	n := 1 + d.roll(min(rows, 6))
	if d.roll(12) == 0 {
		n = 1 + d.roll(rows)
	}
	var l []api.Entry
	for _, doc := range d.rising(n, rows) {
		count := 1 + d.roll(3)
		if d.roll(40) == 0 {
			count = 1 + d.roll(256)
		}
		l = append(l, api.Entry{Doc: doc, Pos: d.rising(count, 65536)})
	}
	return l
}

// keys are n texts that rise, of few bytes, so that many begin alike.
func (d *dice) keys(n int) []string {
	seen := map[string]int{}
	for len(seen) < n {
		b := make([]byte, d.roll(5))
		for i := range b {
			b[i] = []byte{0, 1, 'a', 'b', 127, 128, 195, 255}[d.roll(8)]
		}
		seen[string(b)] = 0
	}
	var l []string
	for k := range seen {
		l = append(l, k)
	}
	slices.Sort(l)
	return l
}

// record is an address of a record, often the least or the greatest one.
func (d *dice) record() int {
	switch d.roll(8) {
	case 0:
		return 1
	case 1:
		return 65535
	}
	return 1 + d.roll(65535)
}

// content is one that may be, with so many rows and lists; without rows it has no lists.
func (d *dice) content(rows, lists int) content {
	var c content
	for range rows {
		c.rows = append(c.rows, api.Row{Birth: d.any(), Id: d.any(), Length: d.any(), Tomb: d.any()})
	}
	if rows == 0 {
		return c
	}
	for _, k := range d.keys(lists) {
		c.lists = append(c.lists, list(k, d.record(), d.entries(rows)...))
	}
	return c
}

// address is one at which an image can be.
func (d *dice) address() int {
	switch d.roll(6) {
	case 0:
		return 0
	case 1:
		return 65536
	}
	return d.roll(65537)
}

// entry is one of a list.
func entry(doc int, pos ...int) api.Entry {
	return api.Entry{Doc: doc, Pos: pos}
}

// list is one of a content.
func list(key string, record int, entries ...api.Entry) api.List {
	return api.List{Key: key, Record: record, Entries: entries}
}

// rowsOf is n rows of which all cells are unlike.
func rowsOf(n int) []api.Row {
	var l []api.Row
	for i := range uint32(n) {
		l = append(l, api.Row{Birth: 1 + i, Id: 1000 + i, Length: 2000 + i, Tomb: 3000 + i})
	}
	return l
}

// key is the i-th of texts of two bytes that rise.
func key(i int) string {
	return string([]byte{byte(i / 100), byte(155 + i%100)})
}

// plain is a content of so many rows and lists: the i-th list has the record 7 + i, and the places i and i + 1 of a row.
func plain(rows, lists int) content {
	c := content{rows: rowsOf(rows)}
	for i := range lists {
		c.lists = append(c.lists, list(key(i), 7+i, entry(i%max(rows, 1), i, i+1)))
	}
	return c
}

// clone is a content that shares nothing with another one.
func clone(c content) content {
	c.rows, c.lists = slices.Clone(c.rows), slices.Clone(c.lists)
	for i := range c.lists {
		l := slices.Clone(c.lists[i].Entries)
		for k := range l {
			l[k].Pos = slices.Clone(l[k].Pos)
		}
		c.lists[i].Entries = l
	}
	return c
}

// bare is a content without its Keys.
func bare(c content) content {
	c.lists = slices.Clone(c.lists)
	for i := range c.lists {
		c.lists[i].Key = ""
	}
	return c
}

// same tells whether two contents are the same, a list without elements being nil or empty.
func same(x, y content) bool {
	return slices.Equal(x.rows, y.rows) && slices.EqualFunc(x.lists, y.lists, func(a, b api.List) bool {
		return a.Key == b.Key && a.Record == b.Record && slices.EqualFunc(a.Entries, b.Entries, func(a, b api.Entry) bool {
			return a.Doc == b.Doc && slices.Equal(a.Pos, b.Pos)
		})
	})
}

// few is as much of a long text of cells as a message tells.
func few(l []uint32) []uint32 {
	return l[:min(len(l), 40)]
}

func wantMake(t *testing.T, at int, c content, want ...uint32) {
	t.Helper()
	if cells, err := image.Make(at, c.rows, c.lists); !slices.Equal(cells, want) || err != api.OK {
		t.Errorf("Make(%d) = %d, %v; want %d", at, few(cells), err, few(want))
	}
	if n := image.Size(c.rows, c.lists); n != len(want) {
		t.Errorf("Size = %d; want %d", n, len(want))
	}
}

// addresses are those at which an image can be, the least and the greatest ones, and some between.
var addresses = []int{0, 1, 2, 10, 65534, 65535, 65536}

// wantArg: a content that may not be has no image anywhere, and no size.
func wantArg(t *testing.T, what string, c content) {
	t.Helper()
	for _, at := range addresses {
		if cells, err := image.Make(at, c.rows, c.lists); len(cells) != 0 || err != api.ErrArg {
			t.Errorf("%s: Make(%d) = %d, %v; want an error", what, at, few(cells), err)
		}
	}
	if n := image.Size(c.rows, c.lists); n != 0 {
		t.Errorf("%s: Size = %d; want 0", what, n)
	}
}

func wantRead(t *testing.T, at int, cells []uint32, want content) {
	t.Helper()
	want = bare(want)
	rows, lists, err := image.Read(at, cells)
	if !same(content{rows, lists}, want) || err != api.OK {
		t.Errorf("Read(%d, %d) = %v, %v, %v; want %v", at, few(cells), rows, lists, err, want)
	}
}

func wantForm(t *testing.T, what string, at int, cells ...uint32) {
	t.Helper()
	rows, lists, err := image.Read(at, cells)
	if len(rows) != 0 || len(lists) != 0 || err != api.ErrForm {
		t.Errorf("%s: Read(%d, %d) = %v, %v, %v; want an error", what, at, few(cells), rows, lists, err)
	}
}

// wantBoth holds a content against its image, both ways.
func wantBoth(t *testing.T, at int, c content, cells ...uint32) {
	t.Helper()
	wantMake(t, at, c, cells...)
	wantRead(t, at, cells, c)
}

// P14.1: the chapter's examples.
func TestExample(t *testing.T) {
	c := content{rows: []api.Row{{Birth: 1, Id: 7, Length: 2, Tomb: 0}}}
	wantBoth(t, 10, c, 2, 0, 1, 7, 2, 0)
	c.lists = []api.List{list("\x00fox", 5, entry(0, 1))}
	wantBoth(t, 10, c, 2, 1, 1, 7, 2, 0, 5, 18, 1, 0, 0x010100)
}

// P14.1: no rows and no lists; and each cell of an image of two rows and three lists, reckoned by hand.
func TestCells(t *testing.T) {
	wantBoth(t, 0, content{}, 1, 0)
	wantBoth(t, 7, content{rows: []api.Row{}, lists: []api.List{}}, 1, 0)
	c := content{
		rows: []api.Row{{Birth: 3, Id: 4, Length: 5, Tomb: 6}, {Birth: 1<<32 - 1, Id: 0, Length: 1 << 31, Tomb: 1<<32 - 1}},
		lists: []api.List{
			list("a", 900, entry(1, 2, 9)),
			list("b", 30, entry(0, 7), entry(1, 8)),
			list("c", 31, entry(0, 300, 301, 302)),
		},
	}
	wantBoth(t, 1000, c,
		3, 3,
		3, 4, 5, 6,
		1<<32-1, 0, 1<<31, 1<<32-1,
		900, 1016,
		30, 1019,
		31, 1023,
		1, 1<<16, 0x07020201,
		2, 1<<16, 0x01070100, 0x0801,
		1, 0, 0x02AC0300, 0x0101)
}

// P14.1: numbers of rows and of lists, up to as many as there may be, and above.
func TestSizes(t *testing.T) {
	for _, rows := range []int{0, 1, 2, 3, 63, 64} {
		for _, lists := range []int{0, 1, 2, 3, 100, 255, 256} {
			if rows == 0 && lists > 0 {
				continue
			}
			c := plain(rows, lists)
			cells := laid(9, c.rows, tell(c.lists))
			if cells[0] != uint32(1+rows) || cells[1] != uint32(lists) || len(cells) < 2+4*rows+5*lists {
				t.Fatalf("laid: %d", few(cells))
			}
			wantBoth(t, 9, c, cells...)
		}
	}
	for _, n := range []int{65, 66, 128, 256, 65536} {
		wantArg(t, "too many rows", plain(n, 0))
		wantArg(t, "too many rows", plain(n, 1))
	}
	for _, n := range []int{257, 258, 512, 5000} {
		wantArg(t, "too many lists", plain(1, n))
		wantArg(t, "too many lists", plain(64, n))
		wantArg(t, "too many lists, and no rows", plain(0, n))
	}
	wantArg(t, "too many rows and lists", plain(65, 257))
}

// P14.1: all rows with all terms, each with as many places as a document has.
func TestGreat(t *testing.T) {
	c := plain(64, 256)
	for i := range c.lists {
		var l []api.Entry
		for doc := range 64 {
			l = append(l, entry(doc, i, 1000+i, 20000, 40000, 60000+doc, 65535))
		}
		c.lists[i].Entries = l
	}
	wantBoth(t, 65536, c, laid(65536, c.rows, tell(c.lists))...)
	if n := image.Size(c.rows, c.lists); n <= api.MaxCells {
		t.Errorf("Size = %d: not above the memory's cells", n)
	}
	var most []int
	for i := range 256 {
		most = append(most, 256*i)
	}
	c = plain(1, 3)
	c.lists[1].Entries = []api.Entry{entry(0, most...)}
	wantBoth(t, 5, c, laid(5, c.rows, tell(c.lists))...)
}

// keyed is a content whose lists have these Keys.
func keyed(keys ...string) content {
	c := plain(2, len(keys))
	for i, k := range keys {
		c.lists[i].Key = k
	}
	return c
}

// P14.1: Keys that rise, byte by byte. They are no part of the image.
func TestKeysRise(t *testing.T) {
	for _, l := range [][]string{
		{""}, {"", "\x00"}, {"", "a"}, {"a"}, {"\xff"},
		{"a", "b"}, {"a", "aa"}, {"a", "a\x00"}, {"ab", "b"}, {"a\xff", "b"}, {"aa", "ab", "b"},
		{"Z", "a"}, {"9", "A"}, {"10", "9"},
		{"\x7f", "\x80"}, {"a", "\x80"}, {"a\x7f", "a\x80"}, {"\x80", "\x80\x00"}, {"\xfe\xff", "\xff"},
		{"\x00\xc3\xa9", "\x00\xc4\x81", "\x01"},
		{"\xed\xa0\x80", "\xee\x80\x80", "\xf0\x90\x80\x80"}, {"\xff\xfd", "\xff\xff"}, {"\xef\xbf\xbd", "\xff"},
		{strings.Repeat("k", 1000), strings.Repeat("k", 1001)}, {strings.Repeat("k", 70000) + "a", strings.Repeat("k", 70000) + "b"},
	} {
		c := keyed(l...)
		wantBoth(t, 3, c, laid(3, c.rows, tell(c.lists))...)
		for i := range len(l) - 1 {
			other := slices.Clone(l)
			other[i], other[i+1] = l[i+1], l[i]
			wantArg(t, "Keys that fall", keyed(other...))
			other[i] = l[i]
			other[i+1] = l[i]
			wantArg(t, "twice the same Key", keyed(other...))
		}
	}
}

// P14.1: Keys that don't rise, in the first, the last and a further list.
func TestKeysFall(t *testing.T) {
	for _, l := range [][]string{
		{"", ""}, {"a", "a"}, {"b", "a"}, {"a", ""}, {"aa", "a"}, {"a\x00", "a"}, {"b", "ab"},
		{"\x80", "\x7f"}, {"\xff", "\x00"}, {"\xff", "\xff"}, {"\x80", "a"}, {"\xc3\xa9", "z"},
		{"", "", "a"}, {"b", "a", "c"}, {"c", "a", "b"},
		{"a", "b", "b"}, {"a", "c", "b"}, {"b", "c", "a"}, {"a", "b", ""}, {"a", "b", "a"},
		{"a", "c", "b", "d"}, {"a", "b", "b", "d"}, {"a", "b", "a", "b"}, {"a", "d", "b", "c"},
	} {
		wantArg(t, "Keys that don't rise", keyed(l...))
	}
	for i := range 256 {
		for _, k := range []int{i - 1, i + 1, 0, 255} {
			c := plain(1, 256)
			c.lists[i].Key = key(min(max(k, 0), 255))
			wantAsModel(t, 5, c)
		}
	}
}

// wantAsModel holds what Make answers against the chapter's words; it tells whether it made an image.
func wantAsModel(t *testing.T, at int, c content) bool {
	t.Helper()
	want, err := modelMake(at, c)
	if err != api.OK {
		wantArg(t, "as the model", c)
		return false
	}
	wantMake(t, at, c, want...)
	return true
}

// fault makes of a list that may be one that may not, of a segment with so many rows.
type fault struct {
	what string
	make func(l *api.List, rows int)
}

func record(n int) fault {
	return fault{"a record", func(l *api.List, _ int) { l.Record = n }}
}

func entries(what string, e ...api.Entry) fault {
	return fault{what, func(l *api.List, _ int) { l.Entries = e }}
}

// last makes another Doc of the last entry's.
func last(what string, doc func(rows int) int) fault {
	return fault{what, func(l *api.List, rows int) {
		l.Entries = slices.Clone(l.Entries)
		l.Entries[len(l.Entries)-1].Doc = doc(rows)
	}}
}

var faults = []fault{
	record(0), record(-1), record(-7), record(-65535), record(65536), record(65537), record(1 << 20),
	record(math.MinInt), record(math.MaxInt), record(1 << 32), record(1<<32 + 1), record(5 - 1<<32),
	entries("no entry"),
	{"no entry, but memory for some", func(l *api.List, _ int) { l.Entries = make([]api.Entry, 0, 4) }},
	entries("no places", entry(0)),
	entries("a Doc below 0", entry(-1, 0)),
	entries("a first Doc below 0", entry(-1, 0), entry(0, 0)),
	entries("twice the same place", entry(0, 3, 3)),
	entries("places that fall", entry(0, 4, 3)),
	entries("a place below 0", entry(0, -1)),
	entries("a place too great", entry(0, 65536)),
	entries("twice the same Doc", entry(0, 1), entry(0, 2)),
	entries("a Doc too great", entry(65536, 1)),
	entries("Docs that fall to one that is there", entry(70, 1), entry(0, 2)),
	entries("257 places", entry(0, count(257)...)),
	entries("65 entries", slices.Repeat([]api.Entry{entry(0, 1)}, 65)...),
	last("a Doc behind the last row", func(rows int) int { return rows }),
	last("a Doc behind the last row", func(rows int) int { return rows + 1 }),
	last("the Doc 64", func(int) int { return 64 }),
	last("the Doc 65535", func(int) int { return 65535 }),
	last("a wide Doc", func(int) int { return 1 << 32 }),
	last("a wide Doc", func(int) int { return math.MaxInt }),
	last("a wide Doc", func(int) int { return math.MinInt }),
	last("a wide Doc", func(int) int { return -1 << 32 }),
	{"two Docs behind the last row", func(l *api.List, rows int) { l.Entries = []api.Entry{entry(rows, 1), entry(rows+1, 1)} }},
	{"a Doc that is there, and one behind the last row", func(l *api.List, rows int) { l.Entries = []api.Entry{entry(rows-1, 1), entry(rows, 1)} }},
}

// count is n places from 0 on.
func count(n int) []int {
	l := make([]int, n)
	for i := range l {
		l[i] = i
	}
	return l
}

// P14.1: one fault, in the first list, in the last one and in each between, is refused, and nothing is answered beside the error.
func TestFaults(t *testing.T) {
	for _, rows := range []int{1, 2, 64} {
		for _, lists := range []int{1, 2, 3, 5} {
			for i := range lists {
				for _, f := range faults {
					c := plain(rows, lists)
					f.make(&c.lists[i], rows)
					wantArg(t, f.what, c)
				}
			}
		}
	}
	for _, i := range []int{0, 1, 100, 254, 255} {
		for _, f := range faults {
			c := plain(64, 256)
			f.make(&c.lists[i], 64)
			wantArg(t, f.what, c)
		}
	}
}

// P14.1: records up to their ends.
func TestRecords(t *testing.T) {
	for _, n := range []int{1, 2, 255, 256, 32768, 65534, 65535} {
		for i := range 3 {
			c := plain(2, 3)
			c.lists[i].Record = n
			cells := laid(10, c.rows, tell(c.lists))
			if cells[2+8+2*i] != uint32(n) {
				t.Fatalf("laid: %d", cells)
			}
			wantBoth(t, 10, c, cells...)
		}
	}
	// Records needn't rise, nor be unlike.
	c := plain(2, 3)
	c.lists[0].Record, c.lists[1].Record, c.lists[2].Record = 9, 9, 3
	wantBoth(t, 10, c, laid(10, c.rows, tell(c.lists))...)
}

// P14.1: Docs up to the last row, and behind it; with no rows, too.
func TestDocs(t *testing.T) {
	for rows := range 65 {
		for doc := range 67 {
			c := content{rowsOf(rows), []api.List{list("a", 5, entry(doc, 1))}}
			own, _ := block.Encode(c.lists[0].Entries)
			cells := laid(10, c.rows, []told{{5, own}})
			if doc < rows {
				wantBoth(t, 10, c, cells...)
				continue
			}
			wantArg(t, "a Doc that is no row", c)
			wantForm(t, "a Doc that is no row", 10, cells...)
		}
	}
	all := plain(64, 1)
	all.lists[0].Entries = nil
	for doc := range 64 {
		all.lists[0].Entries = append(all.lists[0].Entries, entry(doc, doc))
	}
	cells := laid(10, all.rows, tell(all.lists))
	wantBoth(t, 10, all, cells...)
	fewer := content{all.rows[:63], all.lists}
	wantArg(t, "the last Doc is no row", fewer)
	wantForm(t, "the last Doc is no row", 10, laid(10, fewer.rows, tell(fewer.lists))...)
	for _, f := range faults {
		c := content{lists: []api.List{list("a", 5, entry(0, 1))}}
		f.make(&c.lists[0], 0)
		wantArg(t, "a list without rows, "+f.what, c)
	}
	wantArg(t, "a list without rows or entries", content{lists: []api.List{list("a", 5)}})
	wantForm(t, "a list without rows or entries", 10, laid(10, nil, []told{{5, []uint32{0}}})...)
}

// outside are addresses at which nothing can be.
var outside = []int{-1, -2, -10, -65536, 65537, 65538, 131072, 1 << 31, 1 << 32, 1<<32 + 10, 10 - 1<<32, math.MinInt, math.MinInt + 10, math.MaxInt}

// P14.1: addresses at their ends, and outside.
func TestAddresses(t *testing.T) {
	for _, c := range []content{{}, plain(1, 0), plain(1, 1), plain(3, 4), plain(64, 256)} {
		for _, at := range addresses {
			wantBoth(t, at, c, laid(at, c.rows, tell(c.lists))...)
		}
		for _, at := range outside {
			if cells, err := image.Make(at, c.rows, c.lists); len(cells) != 0 || err != api.ErrArg {
				t.Errorf("Make(%d) = %d, %v; want an error", at, few(cells), err)
			}
			wantForm(t, "an address at which nothing can be", at, laid(at, c.rows, tell(c.lists))...)
		}
	}
	bad := plain(65, 0)
	for _, at := range outside {
		if cells, err := image.Make(at, bad.rows, nil); len(cells) != 0 || err != api.ErrArg {
			t.Errorf("Make(%d) of too many rows = %d, %v; want an error", at, few(cells), err)
		}
	}
}

// P14.1: contents of any kind, with and without a fault, held against the chapter's words.
func TestMakeAgainstModel(t *testing.T) {
	d := dice(14)
	made := 0
	for i := range 3000 {
		c := d.content(d.roll(66), d.roll(1+i%12))
		at := d.address()
		if len(c.lists) > 0 && d.roll(3) == 0 {
			faults[d.roll(len(faults))].make(&c.lists[d.roll(len(c.lists))], len(c.rows))
		}
		if len(c.lists) > 0 && d.roll(4) == 0 {
			c.lists[d.roll(len(c.lists))].Key = d.keys(1)[0]
		}
		if len(c.rows) > 0 && d.roll(4) == 0 {
			c.rows = c.rows[:d.roll(len(c.rows))]
		}
		if wantAsModel(t, at, c) {
			made++
		}
	}
	if made < 500 || made > 2500 {
		t.Errorf("%d were made", made)
	}
}

// P14.1: what is handed in stays as it is, its spare room too, and the cells are new memory.
func TestMakeLeaves(t *testing.T) {
	d := dice(141)
	places := []int{1, 5, 9, 9, 7}
	all := d.content(5, 6)
	all.lists[0].Entries = []api.Entry{entry(0, places[:3]...), entry(1, places[2:3]...), entry(1, 0, 0), entry(9)}
	all.lists[1].Entries = all.lists[0].Entries[:2]
	all.lists[0].Entries = all.lists[0].Entries[:1]
	spare := all.lists[1].Entries[:4]
	all.lists[3].Record = 0
	all.lists[5].Key = ""
	was, wasSpare := clone(all), clone(content{lists: []api.List{{Entries: spare}}})
	for rows := range 6 {
		for lists := range 7 {
			image.Make(8, all.rows[:rows], all.lists[:lists])
			image.Size(all.rows[:rows], all.lists[:lists])
			image.Make(-8, all.rows[:rows], all.lists[:lists])
		}
	}
	if !same(all, was) || !slices.Equal(places, []int{1, 5, 9, 9, 7}) || !same(content{lists: []api.List{{Entries: spare}}}, wasSpare) {
		t.Errorf("the content has become %v, the places %v", bare(all), places)
	}
	first, _ := image.Make(8, all.rows, all.lists[:3])
	second, _ := image.Make(8, all.rows, all.lists[:3])
	want := laid(8, was.rows, tell(was.lists[:3]))
	if !slices.Equal(first, want) {
		t.Errorf("Make = %d; want %d", first, want)
	}
	clear(first[:cap(first)])
	clear(places)
	clear(all.rows)
	clear(all.lists)
	if !slices.Equal(second, want) {
		t.Errorf("an answer has changed: %d; want %d", second, want)
	}
}

// P14.1: no cells at all, and one; cells that tell no rows' number, or more rows or lists than there may be.
func TestReadNumbers(t *testing.T) {
	numbers := []uint32{0, 1, 2, 3, 64, 65, 66, 67, 128, 255, 256, 257, 258, 512, 65536, 1 << 16, 1 << 30, 1<<31 - 1, 1 << 31, 1<<32 - 2, 1<<32 - 1}
	for _, at := range addresses {
		wantForm(t, "no cells", at)
		for _, n := range numbers {
			wantForm(t, "one cell", at, n)
			if n != 1 {
				wantForm(t, "two cells", at, n, 0)
			}
			if n > 0 {
				wantForm(t, "no rows, and lists", at, 1, n)
			}
			if n != 3 {
				wantForm(t, "no lists, and cells of 0", at, append([]uint32{n, 0}, make([]uint32, 8)...)...)
			}
		}
		wantForm(t, "two cells of 0", at, 0, 0)
	}
	for rows := range 70 {
		cells := laid(4, rowsOf(rows), nil)
		if rows <= 64 {
			wantRead(t, 4, cells, content{rows: rowsOf(rows)})
		} else {
			wantForm(t, "too many rows", 4, cells...)
		}
	}
	for _, n := range []int{257, 258, 300, 512} {
		c := plain(64, n)
		wantForm(t, "too many lists", 4, laid(4, c.rows, tell(c.lists))...)
	}
	for _, c := range []content{plain(3, 0), plain(3, 5), plain(64, 256)} {
		cells := laid(4, c.rows, tell(c.lists))
		for _, k := range []int{0, 1} {
			for _, n := range numbers {
				other := slices.Clone(cells)
				other[k] = n
				if n != cells[k] {
					wantForm(t, "another number", 4, other...)
				}
			}
		}
	}
}

// P14.1: cells that end too soon, anywhere, and cells too many.
func TestReadEnds(t *testing.T) {
	d := dice(142)
	for _, c := range []content{{}, plain(1, 0), plain(5, 0), plain(1, 1), plain(4, 7), d.content(9, 9), d.content(64, 20)} {
		cells := laid(77, c.rows, tell(c.lists))
		wantRead(t, 77, cells, c)
		for n := range cells {
			wantForm(t, "too few cells", 77, cells[:n]...)
		}
		for _, x := range []uint32{0, 1, 2, 128, 1 << 31, 1<<32 - 1, cells[len(cells)-1]} {
			wantForm(t, "a cell too many", 77, append(slices.Clone(cells), x)...)
			wantForm(t, "cells too many", 77, append(slices.Clone(cells), 0, x)...)
		}
		wantForm(t, "a list too many", 77, append(slices.Clone(cells), 1, 0, 0x010100)...)
		wantForm(t, "many cells too many", 77, append(slices.Clone(cells), make([]uint32, 70000)...)...)
	}
	for rows := range 65 {
		for lists := range 4 {
			c := plain(max(rows, 1), lists)
			begins := 2 + 4*len(c.rows) + 2*lists
			cells := laid(0, c.rows, tell(c.lists))
			for _, n := range []int{2, 3, 5, begins - 2*lists - 1, begins - 1} {
				if n < len(cells) {
					wantForm(t, "too few cells", 0, cells[:n]...)
				}
			}
		}
	}
}

// P14.1: records that aren't as they should be, in each list.
func TestReadRecords(t *testing.T) {
	for _, n := range []int{1, 2, 5, 256} {
		c := plain(3, n)
		cells := laid(10, c.rows, tell(c.lists))
		for i := 0; i < n; i += max(1, n/9) {
			for _, x := range []uint32{0, 65536, 65537, 1 << 17, 1 << 31, 1<<31 + 5, 1<<32 - 1, 1<<32 - 65535} {
				other := slices.Clone(cells)
				other[14+2*i] = x
				wantForm(t, "a record", 10, other...)
			}
			for _, x := range []uint32{1, 65535} {
				other := slices.Clone(cells)
				other[14+2*i] = x
				want := clone(c)
				want.lists[i].Record = int(x)
				wantRead(t, 10, other, want)
			}
		}
	}
}

// P14.1: lists' addresses that aren't as they should be, of each list, of two, and of all.
func TestReadAddresses(t *testing.T) {
	for _, n := range []int{1, 2, 5, 256} {
		c := plain(3, n)
		for _, at := range []int{0, 10, 65536} {
			cells := laid(at, c.rows, tell(c.lists))
			for i := 0; i < n; i += max(1, n/9) {
				for _, x := range []uint32{1, 2, 3, 4, 6, 65536, 1 << 16, 1 << 31, 3 << 30} {
					other := slices.Clone(cells)
					other[15+2*i] += x
					wantForm(t, "an address that is greater", at, other...)
					other[15+2*i] = cells[15+2*i] - x
					wantForm(t, "an address that is less", at, other...)
				}
				other := slices.Clone(cells)
				other[15+2*i] = uint32(at + len(cells))
				wantForm(t, "an address at the end", at, other...)
				other[15+2*i] = 0
				wantForm(t, "no address", at, other...)
				if i+1 < n {
					other := slices.Clone(cells)
					other[15+2*i], other[17+2*i] = cells[17+2*i], cells[15+2*i]
					wantForm(t, "addresses in another order", at, other...)
					other[15+2*i] = cells[15+2*i]
					wantForm(t, "twice the same address", at, other...)
				}
			}
			for _, more := range []uint32{1, 3, 1 << 31, 1<<32 - 1, 1<<32 - 3} {
				other := slices.Clone(cells)
				for i := range n {
					other[15+2*i] += more
				}
				wantForm(t, "all addresses", at, other...)
			}
		}
	}
}

// P14.1: lists' cells that stand in another order than the lists, or with cells between them, or that two lists share, though each address tells where they are.
func TestReadPlaces(t *testing.T) {
	rows := rowsOf(2)
	one, two := []uint32{1, 0, 0x010100}, []uint32{1, 1 << 16, 0x090101}
	ahead := func(addresses ...uint32) []uint32 {
		cells := append([]uint32{3, uint32(len(addresses))}, laid(0, rows, nil)[2:]...)
		for _, a := range addresses {
			cells = append(cells, 5, a)
		}
		return cells
	}
	join := func(lists ...[]uint32) []uint32 { return slices.Concat(lists...) }
	want := content{rows, []api.List{list("a", 5, entry(0, 1)), list("b", 5, entry(1, 9))}}
	wantRead(t, 100, join(ahead(114, 117), one, two), want)
	wantForm(t, "another order", 100, join(ahead(117, 114), two, one)...)
	wantForm(t, "a cell ahead", 100, join(ahead(115, 118), []uint32{0}, one, two)...)
	wantForm(t, "a cell between", 100, join(ahead(114, 118), one, []uint32{0}, two)...)
	wantForm(t, "a list between", 100, join(ahead(114, 120), one, two, one)...)
	wantForm(t, "a list behind", 100, join(ahead(114, 117), one, two, one)...)
	wantForm(t, "shared cells", 100, join(ahead(114, 114), one)...)
	wantForm(t, "shared cells, and others behind", 100, join(ahead(114, 114), one, two)...)
	wantForm(t, "twice the last list", 100, join(ahead(114, 117, 117), one, two)...)
	wantForm(t, "a list at the end", 100, join(ahead(114, 117, 120), one, two)...)
	wantForm(t, "a list without an entry between", 100, join(ahead(114, 117, 118), one, []uint32{0}, two)...)
	wantForm(t, "lists within one another", 100, join(ahead(114, 115), one, two)...)
	wantForm(t, "no lists, and cells of one", 100, join(ahead(), one)...)
	wantForm(t, "the cell ahead of the lists' own", 100, join(ahead(113, 117), one, two)...)
}

// P14.1: a list's cells that are none's by chapter 13, that have no entry, or a Doc that is no row; in the first list, in the last one and between.
func TestReadLists(t *testing.T) {
	var bad [][]uint32
	for _, l := range [][]api.Entry{nil, {entry(3, 1)}, {entry(4, 1)}, {entry(0, 1), entry(3, 1)}, {entry(64, 1)}, {entry(65535, 1)}} {
		own, err := block.Encode(l)
		if err != api.OK {
			t.Fatal(err)
		}
		bad = append(bad, own)
	}
	bad = append(bad,
		nil,
		[]uint32{1},
		[]uint32{1, 0},
		[]uint32{65, 0, 0x010100},
		[]uint32{0, 0},
		[]uint32{1, 1, 0x010100},
		[]uint32{1, 1 << 16, 0x010100},
		[]uint32{1, 0, 0x010100, 0},
		[]uint32{1, 0, 0x01010100},
		[]uint32{1, 0, 0x000000},
		[]uint32{2, 0, 0x01000100},
		[]uint32{1, 0, 0x00800100},
		[]uint32{1, 0, 0x00030200},
		[]uint32{2, 2 << 16, 0x010100},
	)
	good := []uint32{1, 2 << 16, 0x04030202}
	for _, n := range []int{1, 2, 3, 7} {
		for i := range n {
			lists := make([]told, n)
			for k := range lists {
				lists[k] = told{9, []uint32{1, 2 << 16, 0x030102}}
			}
			if _, _, err := image.Read(30, laid(30, rowsOf(3), lists)); err != api.OK {
				t.Fatalf("the image to be spoilt: %v", err)
			}
			for _, own := range bad {
				lists[i].own = own
				wantForm(t, "a list's cells", 30, laid(30, rowsOf(3), lists)...)
			}
			lists[i].own = good
			if _, l, err := image.Read(30, laid(30, rowsOf(3), lists)); err != api.OK || !slices.Equal(l[i].Entries[0].Pos, []int{3, 7}) {
				t.Errorf("a list's cells: %v, %v", l, err)
			}
		}
	}
}

// P14.1: faults of a list's entries, in cells.
func TestReadFaults(t *testing.T) {
	for _, rows := range []int{1, 2, 64} {
		for _, n := range []int{1, 2, 5} {
			for i := range n {
				for _, f := range faults {
					c := plain(rows, n)
					f.make(&c.lists[i], rows)
					wantModel(t, 12, laid(12, c.rows, tell(c.lists)))
				}
			}
		}
	}
}

// wantModel holds what Read answers of cells against the chapter's words, and what it reads against what is made of it; it tells whether it read a content.
func wantModel(t *testing.T, at int, cells []uint32) bool {
	t.Helper()
	want, err := modelRead(at, cells)
	if err != api.OK {
		wantForm(t, "as the model", at, cells...)
		return false
	}
	wantRead(t, at, cells, want)
	for i := range want.lists {
		want.lists[i].Key = key(i)
	}
	wantMake(t, at, want, cells...)
	return true
}

// P14.1, P14.2: every single cell of what Make answers, changed by itself, against the chapter's words: of plain contents each bit, of any other ones some.
func TestEveryCell(t *testing.T) {
	d := dice(143)
	read, all := 0, 0
	check := func(at int, cells []uint32) {
		all++
		if wantModel(t, at, cells) {
			read++
		}
	}
	for i, c := range []content{{}, plain(1, 0), plain(1, 1), plain(2, 3), plain(3, 5), plain(64, 2), plain(5, 40),
		d.content(1, 2), d.content(6, 4), d.content(9, 9), d.content(20, 12), d.content(64, 3)} {
		at := d.address()
		cells, _ := image.Make(at, c.rows, c.lists)
		check(at, cells)
		for k, was := range cells {
			for bit := range 32 {
				cells[k] = was ^ 1<<bit
				if i < 5 || d.roll(8) == 0 {
					check(at, cells)
				}
			}
			for _, x := range []uint32{0, math.MaxUint32, was + 1, was - 1, was << 8, was >> 8, d.any()} {
				cells[k] = x
				check(at, cells)
			}
			cells[k] = was
		}
	}
	if read < all/20 || read > all*9/10 {
		t.Errorf("%d of %d were read", read, all)
	}
}

// P14.1, P14.2: cells turned, put in and taken out, and cells of any kind, against the chapter's words.
func TestAnyCells(t *testing.T) {
	d := dice(144)
	read := 0
	for i := range 30000 {
		c := d.content(d.roll(4), d.roll(1+i%4))
		at := d.address()
		cells := laid(at, c.rows, tell(c.lists))
		k := d.roll(len(cells))
		switch d.roll(6) {
		case 0:
			cells[k] = d.any()
		case 1:
			cells = slices.Insert(cells, k, d.any())
		case 2:
			cells = slices.Delete(cells, k, k+1)
		case 3:
			n := d.roll(len(cells))
			cells[k], cells[n] = cells[n], cells[k]
		case 4:
			cells[k] += uint32(d.roll(5)) - 2
		}
		if wantModel(t, at, cells) {
			read++
		}
		few := []uint32{uint32(d.roll(4)), uint32(d.roll(2)), d.any(), d.any(), d.any(), d.any(), d.any()}
		wantModel(t, at, few[:d.roll(8)])
	}
	if read < 5000 || read > 25000 {
		t.Errorf("%d were read", read)
	}
}

// P14.1, P14.3: at an address of which they aren't the image the cells are none, unless there are no lists.
func TestReadElsewhere(t *testing.T) {
	for _, c := range []content{{}, plain(1, 0), plain(1, 1), plain(4, 6), plain(64, 256)} {
		for _, at := range addresses {
			cells := laid(at, c.rows, tell(c.lists))
			for _, other := range append(addresses, at+1, at-1, at+3, at-3, at+65536, at-65536) {
				if other < 0 || other > 65536 || other != at && len(c.lists) > 0 {
					wantForm(t, "another address", other, cells...)
				} else {
					wantRead(t, other, cells, c)
				}
			}
			for _, other := range outside {
				wantForm(t, "an address at which nothing can be", other, cells...)
			}
		}
	}
	// As if the sum of the address and the place came round.
	c := plain(2, 3)
	for _, at := range []int{-1, -10, -65536, 1<<32 - 10, 1<<32 + 10, 1 << 33} {
		wantForm(t, "an address that comes round", at, laid(at, c.rows, tell(c.lists))...)
	}
}

// P14.1: the cells that are handed in stay, their spare room too, and what is read is new memory, no two of its lists sharing any.
func TestReadLeaves(t *testing.T) {
	d := dice(145)
	c := d.content(9, 8)
	all := append(laid(6, c.rows, tell(c.lists)), 5, 6, 7)
	cells := all[:len(all)-3]
	was := slices.Clone(all)
	rows, lists, _ := image.Read(6, cells)
	rows2, lists2, _ := image.Read(6, cells)
	image.Read(6, all)
	image.Read(5, cells)
	image.Read(6, cells[:len(cells)-1])
	if !slices.Equal(all, was) {
		t.Errorf("the cells have become %d", all)
	}
	clear(all)
	clear(rows[:cap(rows)])
	for i := range lists {
		for k := range lists[i].Entries {
			pos := lists[i].Entries[k].Pos
			for p := range pos[:cap(pos)] {
				pos[:cap(pos)][p] = -1
			}
			lists[i].Entries[k].Pos = nil
			rest := lists[i].Entries[k+1:]
			if want := c.lists[i].Entries[k+1:]; !same(content{lists: []api.List{{Entries: rest}}}, content{lists: []api.List{{Entries: want}}}) {
				t.Errorf("the entries of the list %d behind %d have changed with it: %v; want %v", i, k, rest, want)
			}
		}
		clear(lists[i].Entries[:cap(lists[i].Entries)])
		lists[i].Entries = nil
		if !same(content{lists: lists[i+1:]}, bare(content{lists: c.lists[i+1:]})) {
			t.Errorf("the lists behind %d have changed with it", i)
		}
	}
	clear(lists[:cap(lists)])
	if !same(content{rows2, lists2}, bare(c)) {
		t.Errorf("an answer has changed: %v, %v; want %v", rows2, lists2, bare(c))
	}
}

// P14.2: what is read of what was made is the content, but for the Keys, and what is made of that, with Keys that rise, is the cells.
func TestThereAndBack(t *testing.T) {
	d := dice(146)
	check := func(c content) {
		at := d.address()
		cells, err := image.Make(at, c.rows, c.lists)
		if err != api.OK {
			t.Fatalf("Make: %v", err)
		}
		wantRead(t, at, cells, c)
		rows, lists, _ := image.Read(at, cells)
		for i, k := range d.keys(len(lists)) {
			lists[i].Key = k
		}
		wantMake(t, at, content{rows, lists}, cells...)
	}
	for rows := range 65 {
		for lists := range 12 {
			check(d.content(rows, lists))
		}
		check(d.content(rows, 256))
		check(d.content(rows, d.roll(257)))
	}
}

// P14.2: unlike contents have unlike images, and images that differ but by the Keys are the same.
func TestUnlike(t *testing.T) {
	seen := map[string]int{}
	all := 0
	add := func(c content) {
		cells, err := image.Make(3, c.rows, c.lists)
		if err != api.OK {
			t.Fatalf("Make(%v): %v", bare(c), err)
		}
		told := ""
		for _, x := range cells {
			told += string([]byte{byte(x), byte(x >> 8), byte(x >> 16), byte(x >> 24)})
		}
		seen[told]++
		all++
	}
	some := [][]api.Entry{{entry(0, 0)}, {entry(0, 1)}, {entry(0, 0, 1)}, {entry(1, 0)}, {entry(0, 0), entry(1, 0)}}
	for cells := range 16 {
		rows := []api.Row{{Birth: uint32(cells % 2), Id: uint32(cells / 2 % 2), Length: uint32(cells / 4 % 2), Tomb: uint32(cells / 8)}, {}}
		add(content{rows: rows[:1]})
		add(content{rows: rows})
		for _, x := range some {
			add(content{rows, []api.List{list("a", 1, x...)}})
			add(content{rows, []api.List{list("a", 2, x...)}})
			for _, y := range some {
				add(content{rows, []api.List{list("a", 1, x...), list("b", 2, y...)}})
				add(content{rows, []api.List{list("a", 2, x...), list("b", 1, y...)}})
			}
		}
	}
	add(content{})
	if len(seen) != all {
		t.Errorf("%d contents have %d images", all, len(seen))
	}
	c, other := plain(3, 9), plain(3, 9)
	for i := range other.lists {
		other.lists[i].Key = strings.Repeat("\xff", i)
	}
	cells, _ := image.Make(3, c.rows, c.lists)
	wantMake(t, 3, other, cells...)
}

// P14.3: at another address only the lists' addresses differ, each by as much.
func TestAnywhere(t *testing.T) {
	d := dice(147)
	for i := range 200 {
		c := d.content(d.roll(65), i%20)
		at, more := d.roll(65537), d.address()
		here, _ := image.Make(at, c.rows, c.lists)
		there, _ := image.Make(more, c.rows, c.lists)
		want := slices.Clone(here)
		for k := range c.lists {
			want[2+4*len(c.rows)+2*k+1] += uint32(more - at)
		}
		if !slices.Equal(there, want) {
			t.Errorf("at %d: %d; at %d: %d", at, few(here), more, few(there))
		}
		wantRead(t, more, there, c)
	}
}
