package roll_test

import (
	"fmt"
	"math"
	"reflect"
	"slices"
	"testing"

	"plover/api"
	"plover/roll"
)

// entry is one of a list.
func entry(doc int, pos ...int) api.Entry {
	return api.Entry{Doc: doc, Pos: pos}
}

// list is one with a record.
func list(key string, entries ...api.Entry) api.List {
	return api.List{Key: key, Record: 5, Entries: entries}
}

// small is the least configuration: a live segment of 133 cells.
func small() api.Conf {
	return api.Conf{Docs: 1, Terms: 64}
}

// P16.1: Size of contents reckoned by hand: the image's cells, those of a live segment, and one and one for each segment and one more.
func TestSize(t *testing.T) {
	one := []api.List{list("\x00fox", entry(0, 1))}
	for _, x := range []struct {
		docs  int
		lists []api.List
		segs  int
		want  int
	}{
		{0, nil, 1, 2 + 133 + 3}, {0, []api.List{}, 2, 2 + 133 + 4}, {0, nil, 50, 2 + 133 + 52}, {0, nil, api.MaxCells, 2 + 133 + 65538},
		{1, nil, 1, 6 + 133 + 3}, {64, nil, 1, 258 + 133 + 3},
		{1, one, 1, 11 + 133 + 3}, {3, one, 4, 19 + 133 + 6},
		{1, []api.List{list("a", entry(0, 1)), list("b", entry(0, 1, 2, 3))}, 1, 6 + 4 + 3 + 4 + 133 + 3},
		{5, []api.List{list("", entry(0, 0), entry(1, 0), entry(2, 0), entry(3, 0), entry(4, 200))}, 1, 22 + 2 + 3 + 4 + 133 + 3},
	} {
		if got := roll.Size(small(), x.docs, x.lists, x.segs); got != x.want {
			t.Errorf("Size of %d documents, %v and %d segments: %d, want %d", x.docs, x.lists, x.segs, got, x.want)
		}
	}
}

// P16.1: Size goes by the configuration's Docs and Terms for the new live segment alone: a content may have more of both; and K, B and the pools play no part, full or empty.
func TestSizeConf(t *testing.T) {
	var lists []api.List
	for i := range 256 {
		lists = append(lists, list(fmt.Sprintf("k%03d", i), entry(63, i)))
	}
	own := 256 * 3 // each has 1, 65536 times 63, and three or four bytes
	for _, x := range []struct{ docs, terms, live int }{
		{1, 64, 133}, {64, 64, 385}, {1, 127, 133}, {1, 128, 261}, {2, 255, 265}, {1, 256, 517}, {64, 256, 769},
	} {
		for _, c := range []api.Conf{{}, {Room: 1}, {Room: 60000, K: math.NaN(), B: math.Inf(1)}, {Slabs: [4]int{512, 512, 1, 1}, Book: 9}} {
			c.Docs, c.Terms = x.docs, x.terms
			want := 2 + 4*64 + 2*256 + own + x.live + 4
			if got := roll.Size(c, 64, lists, 2); got != want {
				t.Errorf("Size with %+v: %d, want %d", c, got, want)
			}
		}
	}
}

// P16.1: Size is 0, if the configuration may not be.
func TestSizeOfNoConf(t *testing.T) {
	for name, c := range badConfs() {
		if got := roll.Size(c, 1, nil, 1); got != 0 {
			t.Errorf("%s: %d", name, got)
		}
	}
	if got := roll.Size(wide(), 1, nil, 1); got != 6+1+64+128+3 {
		t.Errorf("of one that may be: %d", got)
	}
}

// P16.1: Size is 0, if the segments aren't from 1 to MaxCells, or the documents from 0 to 64.
func TestSizeLimits(t *testing.T) {
	for _, segs := range []int{0, -1, -2, -1000, math.MinInt, api.MaxCells + 1, api.MaxCells + 2, 1 << 40, math.MaxInt, math.MaxInt - 1} {
		if got := roll.Size(small(), 1, nil, segs); got != 0 {
			t.Errorf("%d segments: %d", segs, got)
		}
	}
	for _, segs := range []int{1, 2, 3, api.MaxCells - 1, api.MaxCells} {
		if got := roll.Size(small(), 1, nil, segs); got != 6+133+2+segs {
			t.Errorf("%d segments: %d", segs, got)
		}
	}
	for _, docs := range []int{-1, -2, math.MinInt, 65, 66, 1000, 1 << 32, 1 << 40, math.MaxInt} {
		if got := roll.Size(small(), docs, nil, 1); got != 0 {
			t.Errorf("%d documents: %d", docs, got)
		}
	}
	for docs := range 65 {
		if got := roll.Size(small(), docs, nil, 1); got != 2+4*docs+133+3 {
			t.Errorf("%d documents: %d", docs, got)
		}
	}
}

// P16.1: Size is 0, if the lists are none of a content's: out of order, twice the same, too many, without entries, of documents that aren't there, with entries or places that may not be.
func TestSizeOfNoContent(t *testing.T) {
	many := func(n int) []api.List {
		var l []api.List
		for i := range n {
			l = append(l, list(fmt.Sprintf("k%03d", i), entry(0, 1)))
		}
		return l
	}
	places := func(n int) []int {
		var l []int
		for i := range n {
			l = append(l, i)
		}
		return l
	}
	record := func(n int) []api.List {
		return []api.List{{Key: "a", Record: n, Entries: []api.Entry{entry(0, 1)}}}
	}
	for name, lists := range map[string][]api.List{
		"out of order":      {list("b", entry(0, 1)), list("a", entry(0, 1))},
		"twice":             {list("a", entry(0, 1)), list("a", entry(0, 1))},
		"twice no key":      {list("", entry(0, 1)), list("", entry(0, 1))},
		"the last one":      {list("a", entry(0, 1)), list("c", entry(0, 1)), list("b", entry(0, 1))},
		"a beginning":       {list("ab", entry(0, 1)), list("a", entry(0, 1))},
		"signed bytes":      {list("\x80", entry(0, 1)), list("\x7f", entry(0, 1))},
		"257":               many(257),
		"1000":              many(1000),
		"no entries":        {list("a")},
		"no entries second": {list("a", entry(0, 1)), list("b")},
		"no such document":  {list("a", entry(0, 1), entry(3, 1))},
		"far":               {list("a", entry(65535, 1))},
		"below 0":           {list("a", entry(-1, 1))},
		"falling":           {list("a", entry(1, 1), entry(0, 1))},
		"the same document": {list("a", entry(1, 1), entry(1, 2))},
		"no places":         {list("a", entry(0))},
		"257 places":        {list("a", entry(0, places(257)...))},
		"falling places":    {list("a", entry(0, 2, 1))},
		"the same place":    {list("a", entry(0, 2, 2))},
		"a place below 0":   {list("a", entry(0, -1))},
		"a place too far":   {list("a", entry(0, 65536))},
		"no record":         record(0),
		"a record below 0":  record(-1),
		"a record too far":  record(65536),
		"MinInt":            record(math.MinInt),
	} {
		if got := roll.Size(small(), 3, lists, 1); got != 0 {
			t.Errorf("%s: %d", name, got)
		}
	}
	for name, lists := range map[string][]api.List{
		"256":               many(256),
		"256 places":        {list("a", entry(0, places(256)...))},
		"far":               {list("a", entry(2, 65535))},
		"first record":      record(1),
		"last record":       record(65535),
		"keys of any bytes": {list("", entry(0, 0)), list("\x7f", entry(0, 1)), list("\x80", entry(0, 1)), list("\x80a", entry(0, 1))},
	} {
		if got := roll.Size(small(), 3, lists, 1); got != sizeOf(3, lists)+133+3 {
			t.Errorf("%s: %d", name, got)
		}
	}
}

// sizeOf is how many cells an image of so many rows and these lists has, by the chapters' words.
func sizeOf(docs int, lists []api.List) int {
	n := 2 + 4*docs + 2*len(lists)
	for _, l := range lists {
		n += len(listCells(l.Entries))
	}
	return n
}

// rising is n numbers from 0 to most - 1 that rise; n is at most most.
func (d *dice) rising(n, most int) []int {
	taken := map[int]bool{}
	var l []int
	for len(l) < n {
		if x := d.roll(most); !taken[x] {
			taken[x] = true
			l = append(l, x)
		}
	}
	slices.Sort(l)
	return l
}

// content is any lists of a segment with so many documents.
func (d *dice) content(docs int) []api.List {
	var l []api.List
	if docs == 0 {
		return nil
	}
	for i := range d.roll(12) {
		x := list(fmt.Sprintf("%c%d", d.roll(3), i))
		for _, doc := range d.rising(1+d.roll(docs), docs) {
			x.Entries = append(x.Entries, entry(doc, d.rising(1+d.roll(6), []int{10, 300, 65536}[d.roll(3)])...))
		}
		l = append(l, x)
	}
	slices.SortFunc(l, func(a, b api.List) int { return slices.Compare([]byte(a.Key), []byte(b.Key)) })
	return l
}

// P16.1: Size of many contents, held against the chapters' words; what is handed in is left as it is.
func TestSizes(t *testing.T) {
	for seed := range 300 {
		d := dice(seed)
		docs, segs, c := d.roll(65), 1+d.roll(90), d.conf(t)
		lists := d.content(docs)
		again := make([]api.List, len(lists))
		for i, l := range lists {
			again[i] = l
			again[i].Entries = nil
			for _, e := range l.Entries {
				again[i].Entries = append(again[i].Entries, entry(e.Doc, slices.Clone(e.Pos)...))
			}
		}
		want := sizeOf(docs, lists) + laid(t, c).Live + 2 + segs
		if got := roll.Size(c, docs, lists, segs); got != want {
			t.Errorf("seed %d: %d, want %d", seed, got, want)
		}
		if len(lists) > 0 && !reflect.DeepEqual(lists, again) {
			t.Errorf("seed %d: the lists have turned", seed)
		}
	}
}

// word is a place as a cell.
func word(doc, pos int) uint32 { return uint32(65536*doc + pos) }

// P16.1: Entries of no words, of one, of several of one document and of several; each run of one document is an entry, whatever stands in it.
func TestEntries(t *testing.T) {
	for _, x := range []struct {
		words []uint32
		want  []api.Entry
	}{
		{nil, nil}, {[]uint32{}, nil},
		{[]uint32{0}, []api.Entry{entry(0, 0)}},
		{[]uint32{word(3, 7)}, []api.Entry{entry(3, 7)}},
		{[]uint32{math.MaxUint32}, []api.Entry{entry(65535, 65535)}},
		{[]uint32{word(1, 9), word(1, 4), word(1, 0)}, []api.Entry{entry(1, 0, 4, 9)}},
		{[]uint32{word(2, 5), word(1, 4), word(1, 0), word(0, 8)}, []api.Entry{entry(0, 8), entry(1, 0, 4), entry(2, 5)}},
		{[]uint32{word(0, 1), word(0, 2), word(0, 2)}, []api.Entry{entry(0, 2, 2, 1)}},
		{[]uint32{word(1, 1), word(2, 2), word(1, 3), word(1, 0)}, []api.Entry{entry(1, 0, 3), entry(2, 2), entry(1, 1)}},
		{[]uint32{65535, 65536, 131071, 131072}, []api.Entry{entry(2, 0), entry(1, 65535, 0), entry(0, 65535)}},
		{[]uint32{1 << 31, 0x7FFFFFFF}, []api.Entry{entry(32767, 65535), entry(32768, 0)}},
	} {
		was := slices.Clone(x.words)
		if got := roll.Entries(x.words); !sameEntries(got, x.want) {
			t.Errorf("Entries(%v) = %v, want %v", x.words, got, x.want)
		}
		if !slices.Equal(x.words, was) {
			t.Errorf("Entries(%v): the words have turned", was)
		}
	}
}

func sameEntries(a, b []api.Entry) bool {
	return slices.EqualFunc(a, b, func(x, y api.Entry) bool { return x.Doc == y.Doc && slices.Equal(x.Pos, y.Pos) })
}

// P16.1: Entries of many words: read back one by one they are the words from the last to the first, and no two entries on end are of one document.
func TestEntriesOfMany(t *testing.T) {
	for seed := range 200 {
		d := dice(seed)
		words := make([]uint32, d.roll(60)*(1+d.roll(80)))
		for i := range words {
			words[i] = word([]int{3, 64, 65536}[seed%3]-1-d.roll(3), d.roll(65536))
		}
		got := roll.Entries(words)
		var back []uint32
		for i, e := range got {
			if len(e.Pos) == 0 || i > 0 && got[i-1].Doc == e.Doc {
				t.Fatalf("seed %d: entry %d is %v", seed, i, e)
			}
			for _, p := range e.Pos {
				back = append(back, word(e.Doc, p))
			}
		}
		slices.Reverse(back)
		if !slices.Equal(back, words) {
			t.Fatalf("seed %d: %d words are %v", seed, len(words), got)
		}
	}
}

// P16.1: Entries of whole segments' words, as they stand behind each other in slabs, the newest first.
func TestEntriesOfSegments(t *testing.T) {
	for _, part := range []int{1, 3, 64} {
		var words []uint32
		var want []api.Entry
		for d := range 64 {
			e := entry(d)
			for p := range part {
				e.Pos = append(e.Pos, 4*p+d%4)
				words = append(words, word(d, 4*p+d%4))
			}
			want = append(want, e)
		}
		slices.Reverse(words)
		if got := roll.Entries(words); !sameEntries(got, want) {
			t.Errorf("of 64 documents with %d words each: %v", part, got)
		}
	}
}

// P16.1: no two lists of an answer share memory, spare room too, nor do they with the words.
func TestEntriesApart(t *testing.T) {
	words := []uint32{word(3, 9), word(2, 8), word(2, 7), word(2, 6), word(1, 5), word(1, 4), word(0, 3)}
	got := roll.Entries(words)
	for i := range got {
		all := got[i].Pos[:cap(got[i].Pos)]
		for k := range all {
			all[k] = 1000 * (i + 1)
		}
	}
	_ = append(got, entry(9, 9), entry(9, 9))
	for i, n := range []int{1, 2, 3, 1} {
		if got[i].Doc != i || !slices.Equal(got[i].Pos, slices.Repeat([]int{1000 * (i + 1)}, n)) {
			t.Errorf("entry %d is %v", i, got[i])
		}
	}
	if !slices.Equal(words, []uint32{word(3, 9), word(2, 8), word(2, 7), word(2, 6), word(1, 5), word(1, 4), word(0, 3)}) {
		t.Errorf("the words are %v", words)
	}
}
