package roll_test

import (
	"math"
	"slices"
	"strconv"
	"strings"
	"testing"

	"plover/api"
	"plover/mem"
	"plover/pack"
	"plover/roll"
	"plover/step"
	"plover/write"
)

// wide is a configuration with room for much.
func wide() api.Conf {
	return api.Conf{Docs: 16, Terms: 64, Slabs: [4]int{200, 30, 10, 3}, Book: 800, Room: 2500}
}

// times is a word so many times, with blanks between.
func times(word string, n int) string {
	return strings.TrimSpace(strings.Repeat(word+" ", n))
}

// words are n words that are unlike, from a number on.
func words(from, n int) string {
	var l []string
	for i := range n {
		l = append(l, "w"+strconv.Itoa(from+i))
	}
	return strings.Join(l, " ")
}

// trace goes on with a Roll to its end, and tells what it stores, Step by Step: each cell must turn by its store.
func trace(t *testing.T, m *mem.Mem, x *call, c api.Conf, w api.Writer) []store {
	t.Helper()
	var l []store
	program, r := x.program(c, w), step.New(m)
	for over := false; !over; {
		was, loads, stores := m.Cells(), m.Loads(), m.Stores()
		over = r.Step(program)
		n := m.Stores() - stores
		for a, v := range m.Cells() {
			if v != was[a] {
				l = append(l, store{a, v})
				n--
			}
		}
		if n != 0 || m.Loads()+m.Stores()-loads-stores != 1 {
			t.Fatalf("a Step with %d loads and %d stores, of which %d are not seen", m.Loads()-loads, m.Stores()-stores, n)
		}
	}
	if r.Err() != api.OK || x.err != api.OK {
		t.Fatalf("the run: %v, the call: %v", r.Err(), x.err)
	}
	return l
}

// junk is unlike every number that these tests store, so that each store shows.
func junk(a int) uint32 {
	return 0xDEAD0000 + uint32(a)
}

// begun is a writer in a memory in which all cells hold junk but the first ones and the live segment's.
func begun(t *testing.T, c api.Conf) (*mem.Mem, api.Writer) {
	t.Helper()
	p := laid(t, c)
	m, err := mem.New(p.Cells)
	if err != api.OK {
		t.Fatal(err)
	}
	for a := 3; a < p.Cells; a++ {
		if a < p.Base[api.Room] || a >= p.Base[api.Room]+p.Live {
			m.Store(a, junk(a))
		}
	}
	w, err := write.New(m, c)
	if err != api.OK {
		t.Fatal(err)
	}
	return m, w
}

// P16.1: the chapter's example: 2 cells, 133 and 3 of the room; the image is 1, 0. What is stored, in order, reckoned by hand; the new live segment's cells aren't.
func TestExample(t *testing.T) {
	c := api.Conf{Docs: 1, Terms: 64, Room: 135 + 138}
	m, w := begun(t, c)
	x := &call{o: seal()}
	want := []store{{138, 1}, {139, 0}, {273, 2}, {274, 138}, {275, 140}, {2, 273}}
	if got := trace(t, m, x, c, w); !slices.Equal(got, want) {
		t.Fatalf("stores %v, want %v", got, want)
	}
	wantWriter(t, "the example", x.w, api.Writer{Segs: []api.Seg{{Addr: 138, Sealed: true}, {Addr: 140}}, Used: [api.Pools]int{api.Room: 273}})
	if got := roll.Size(c, 0, nil, 1); got != 2+133+3 {
		t.Errorf("Size of it: %d", got)
	}

	newBench(t, c).all(seal())
	c.Room--
	newBench(t, c).wants(api.ErrFull, seal())
}

// P16.1: what a Roll of two documents stores, in this order, Step by Step, reckoned by hand, and one of the next segment behind it.
func TestStoresInOrder(t *testing.T) {
	c := api.Conf{Docs: 2, Terms: 64, Slabs: [4]int{4, 1}, Book: 20, Room: 800}
	m, w := begun(t, c) // slabs at 3 and 19, the book at 35, the room at 55: a live segment of 137 cells
	do := func(o api.Op) {
		t.Helper()
		x := &call{o: o}
		run(t, m, x.program(c, w))
		if x.err != api.OK {
			t.Fatalf("%+v: %v", o, x.err)
		}
		w = x.w
	}
	rolls := func(want []store, then api.Writer) {
		t.Helper()
		x := &call{o: seal()}
		if got := trace(t, m, x, c, w); !slices.Equal(got, want) {
			t.Fatalf("stores %v, want %v", got, want)
		}
		wantWriter(t, "behind a Roll", x.w, then)
		w = x.w
	}

	do(add(7, "Fox, the FOX"))
	do(del(7))
	do(add(4000000000, "a fox fox", "", "and", "lynxes!"))
	rolls([]store{
		{194, 3}, {195, 2}, // two rows and two lists
		{196, 1}, {197, 7}, {198, 2}, {199, 2},
		{200, 3}, {201, 4000000000}, {202, 3}, {203, 0},
		{204, 35}, {205, 208}, {206, 38}, {207, 212},
		{208, 2}, {209, 65536}, {210, 0x02000200}, {211, 0x01010201}, // fox: 0: 0, 2; 1: 1, 2
		{212, 1}, {213, 65536}, {214, 0x00000101}, // lynxes: 1: 0
		{352, 2}, {353, 194}, {354, 215}, {2, 352},
	}, api.Writer{
		Segs: []api.Seg{{Addr: 194, Docs: 2, Sealed: true}, {Addr: 215}}, Version: 3, Used: [6]int{8, 16, 0, 0, 7, 300},
	})

	for a := 215; a < 352; a++ {
		m.Store(a, 0) // what the new live segment's cells are, where there was no junk
	}
	do(add(9, "", "\u0416 the"))
	rolls([]store{
		{355, 2}, {356, 1},
		{357, 4}, {358, 9}, {359, 1}, {360, 0},
		{361, 42}, {362, 363},
		{363, 1}, {364, 0}, {365, 0x00000100},
		{503, 3}, {504, 194}, {505, 355}, {506, 366}, {2, 503},
	}, api.Writer{
		Segs: []api.Seg{{Addr: 194, Docs: 2, Sealed: true}, {Addr: 355, Docs: 1, Sealed: true}, {Addr: 366}}, Version: 4, Used: [6]int{12, 16, 0, 0, 10, 452},
	})
}

// P16.1, P16.4: live segments without documents, with one, and with as many as the configuration takes; several on end, and behind each there is room for as many again.
func TestDocs(t *testing.T) {
	for _, docs := range []int{1, 2, 5, 64} {
		c := api.Conf{Docs: docs, Terms: 64, Slabs: [4]int{400, 40, 10, 3}, Book: 600, Room: 6500}
		b := newBench(t, c)
		id := uint32(0)
		for _, n := range []int{0, 1, docs, docs, 0, 1, (docs + 1) / 2} {
			for range n {
				b.all(add(id, []string{"fox dog", "", "dog", "hare fox hare"}[id%4], "fox"))
				id++
			}
			if n == docs {
				b.wants(api.ErrSegFull, add(1000, "fox"))
			}
			b.all(seal())
		}
		if len(b.w.Segs) != 8 {
			t.Errorf("%d segments", len(b.w.Segs))
		}
	}
}

// P16.1, P16.4: as many terms as the configuration takes, of one document and of several, and as many others behind the Roll.
func TestTerms(t *testing.T) {
	for _, terms := range []int{64, 127, 128, 256} {
		c := api.Conf{Docs: 9, Terms: terms, Slabs: [4]int{512, 10, 5, 1}, Book: 2100, Room: 5000}
		b := newBench(t, c)
		for s := range 2 {
			for n := 0; n < terms; n += 64 {
				b.all(add(uint32(1000*s+n), words(1000*s+n, min(64, terms-n))))
			}
			b.wants(api.ErrSegFull, add(9999, "new"))
			if b.w.Terms != terms {
				t.Fatalf("%d terms, want %d", b.w.Terms, terms)
			}
			b.all(seal())
		}
	}
}

// P16.1: all limits at once: 64 documents of 64 words, 256 terms.
func TestMost(t *testing.T) {
	c := api.Conf{Docs: 64, Terms: 256, Slabs: [4]int{320, 256, 40, 8}, Book: 1500, Room: 9000}
	b := newBench(t, c)
	for d := range 64 {
		b.all(add(uint32(d), words(4*(d%16), 16), words(100+4*(d%16), 16), words(200, 16), words(4*d%64, 16)))
	}
	for d := range 64 {
		if d%3 == 0 {
			b.all(del(uint32(d)))
		}
	}
	if b.w.Terms < 200 {
		t.Errorf("%d terms", b.w.Terms)
	}
	b.all(seal(), add(64, words(0, 64)), seal())
}

// P16.1, P16.4: two Rolls and more on end: empty segments between others.
func TestRollsOnEnd(t *testing.T) {
	b := newBench(t, wide())
	b.all(seal(), seal(), seal(), add(1, "fox"), seal(), seal(), add(2, "fox dog"), del(1), seal(), seal(), seal(), del(2), seal())
	if len(b.w.Segs) != 10 || b.w.Version != 4 {
		t.Errorf("%+v", b.w)
	}
}

// P16.1, P16.2: documents that are deleted ahead of a Roll, and behind it: their tombs are sealed as they are, or come into the image; their ids are still there.
func TestDeleted(t *testing.T) {
	b := newBench(t, wide())
	b.all(add(1, "fox"), add(2, "fox dog"), add(3, "dog"), add(4, "cat"), del(2), seal())
	b.wants(api.ErrNoDoc, del(2))
	b.wants(api.ErrDup, add(2, "fox"))
	b.all(del(3))
	b.wants(api.ErrNoDoc, del(3))
	b.wants(api.ErrDup, add(3, "new"))
	b.all(add(5, "fox"), del(1), add(6, "dog"), del(6), seal(), del(5), del(4))
	for id := range uint32(6) {
		b.wants(api.ErrNoDoc, del(id+1))
		b.wants(api.ErrDup, add(id+1, "fox"))
	}
	b.wants(api.ErrNoDoc, del(7))
	b.all(seal(), add(7, "fox"))
	if b.w.Version != 13 {
		t.Errorf("the version %d", b.w.Version)
	}
}

// P16.1, P16.2: an id that stands in a sealed segment and in the live one, as no Add lays it: both rows are sealed, and each stays the one that it was.
func TestTwoOfOneId(t *testing.T) {
	b := newBench(t, wide())
	b.all(add(7, "fox"), add(8, "dog"), seal())
	b.wants(api.ErrDup, add(7, "cat"))
	b.byHand(b.x.place(7, []api.Tok{{Text: "cat", Pos: 3}, {Field: 2, Text: "fox", Pos: 200}}))
	b.all(seal(), add(9, "fox"), del(7)) // the oldest one's row is found
	b.wants(api.ErrNoDoc, del(7))
	b.byHand(b.x.place(9, []api.Tok{{Text: "cat"}}))
	b.byHand(b.x.place(7, nil))
	b.all(seal(), seal())
}

// P16.1: the lists stand by rising Keys, byte by byte: beginnings of others, fields ahead of terms, bytes above 127; whatever order the dictionary has.
func TestKeys(t *testing.T) {
	for _, fields := range [][]string{
		{"fox fo f foxes foxe"},
		{"f fo fox", "fo fox f", "fox f fo", "foxes"},
		{"b", "c", "d", "0"},
		{"zz z zzz", "e ee eee", "0 00 000", "9 99"},
		{"\u00e9 z e \u017e \u4e00 \u0416 \uac00 \u05d0 ez e\u00e9 \u00e9z 9"},
		{"abcdefghijklmnop abcdefghijklmno abcdefghijklmnopq abcdefghijklmnp abcdefghijklmnoo"},
		{words(0, 30), words(0, 30)},
	} {
		b := newBench(t, wide())
		b.all(add(1, fields...), seal())
		slices.Reverse(fields)
		b.all(add(2, fields...), add(3, fields...), seal())
	}
}

// P16.1: Keys in the order of an image, reckoned by hand.
func TestKeysByHand(t *testing.T) {
	c := wide()
	b := newBench(t, c)
	b.all(add(1, "b fox foxes \u00e9 fo", "b fo a", "0"), seal())
	want := []string{"\x00b", "\x00fo", "\x00fox", "\x00foxes", "\x00\u00e9", "\x01b", "\x01fo", "\x020"}
	cells := b.m.Cells()
	image := cells[b.w.Segs[0].Addr:]
	if int(image[1]) != len(want) {
		t.Fatalf("%d lists", image[1])
	}
	for i, key := range want {
		record := cells[image[6+2*i]:]
		if got, _ := pack.Bytes(record[2:], int(record[1])); got != key {
			t.Errorf("the list %d is of %q, want %q", i, got, key)
		}
	}
}

// P16.1, P16.2: terms of the dictionary that have no words at their tails have no list; others beside them have theirs.
func TestTermsWithoutWords(t *testing.T) {
	for _, bare := range [][]string{{"\x00a"}, {"\x00fo"}, {"\x00foxes", "\x00z", "\x01fox"}, {"\x00e", "\x00dogs", "\x03\u00e9"}} {
		b := newBench(t, wide())
		b.byHand(b.x.enter(bare[0]))
		b.all(seal())
		for _, key := range bare {
			b.byHand(b.x.enter(key))
		}
		b.all(add(1, "fox dog"), seal())
		b.all(add(2, "fox dog"), del(1))
		for _, key := range bare {
			b.byHand(b.x.enter(key))
		}
		b.all(add(3, "cat"), seal())
	}
}

// P16.1: documents without words have rows, and no list.
func TestDocsWithoutWords(t *testing.T) {
	b := newBench(t, wide())
	b.all(add(1), add(2, "the", "a"), seal(), add(3), add(4, "fox"), add(5), seal())
}

// P16.1, P16.2: lists of one document and of many, with several places of each, whose words take slabs of all classes and end at each place in them.
func TestLists(t *testing.T) {
	for n := range 40 {
		b := newBench(t, wide())
		b.all(add(1, times("fox", n)), add(2, "dog", times("fox", n)), seal())
	}
	for _, part := range []int{1, 2, 3, 5, 13, 40, 64} { // in documents of so many words of one term, up to 450 words
		c := wide()
		c.Docs = 64
		b := newBench(t, c)
		for d := range min(64, 450/part) {
			b.all(add(uint32(d), times("fox", part)))
			if d%20 == 7 {
				b.all(seal())
			}
		}
		b.all(seal())
	}
}

// P16.1: places far out, whose numbers have two bytes, of documents that are next to each other and far apart.
func TestFarPlaces(t *testing.T) {
	c := wide()
	c.Docs = 64
	b := newBench(t, c)
	for d := range uint32(64) {
		text := ""
		switch {
		case d%9 == 0:
			text = "fox " + times("a", int(126+d/9)) + " fox fox " + times("a", 100) + " dog"
		case d > 60:
			text = times("a", 254) + " x"
		}
		b.all(add(d, text))
	}
	b.all(seal())
}

// room is how many cells of the room are used behind operations, the last one a Roll, that are done in enough of it.
func room(t *testing.T, c api.Conf, l []api.Op) int {
	t.Helper()
	c.Room = 9000
	b := newBench(t, c)
	b.all(l...)
	return b.w.Used[api.Room]
}

// P16.1: the room has just as many cells as a Roll takes, or one fewer, or any number below: then it is ErrFull, nothing is stored, and the next calls go on.
func TestRoom(t *testing.T) {
	for i, l := range [][]api.Op{
		{seal()},
		{seal(), seal()},
		{add(1, "fox"), seal()},
		{add(1, "fox dog fox"), add(2, "dog"), del(1), seal()},
		{add(1), seal()},
		{add(1, words(0, 40)), add(2, words(0, 64)), seal()},
		{add(1, "fox"), seal(), seal(), add(2, "fox"), add(3, "dog", "fox"), del(1), seal()},
	} {
		c := wide()
		c.Docs = 4 + 2*(i%3)
		need := room(t, c, l)
		ahead := l[:len(l)-1]
		had := newBench(t, c)
		had.all(ahead...)
		least := had.w.Used[api.Room]
		for _, n := range []int{need, need + 1, need - 1, need - 2, need - 100, least + 1, least} {
			c.Room = n
			b := newBench(t, c)
			b.all(ahead...)
			if n >= need {
				b.all(seal())
				if b.w.Used[api.Room] != need {
					t.Errorf("%d: %d cells are used, want %d", i, b.w.Used[api.Room], need)
				}
				continue
			}
			stores := b.m.Stores()
			for range 2 {
				b.wants(api.ErrFull, seal())
			}
			if b.m.Stores() != stores {
				t.Errorf("%d: a room of %d: %d stores", i, n, b.m.Stores()-stores)
			}
			b.all(add(100, "the"), del(100))
			b.wants(api.ErrFull, seal())
		}
	}
}

// P16.1: neither the book nor the slabs being full stands against a Roll.
func TestFullPools(t *testing.T) {
	b := newBench(t, api.Conf{Docs: 2, Terms: 64, Slabs: [4]int{1, 0, 0, 0}, Book: 3, Room: 600})
	b.all(add(1, "fox fox fox"))
	b.wants(api.ErrFull, add(2, "fox"))
	b.all(seal())
	b.wants(api.ErrFull, add(2, "fox"))
	b.all(add(2), seal())
}

// P16.1: what is handed in is left as it is, spare room too, and not kept; an answer is new memory.
func TestHandedIn(t *testing.T) {
	b := newBench(t, wide())
	b.all(add(1, "fox"), seal(), add(2, "dog"))
	spare := api.Seg{Addr: -1, Docs: -2}
	for n := range 3 {
		segs := append(slices.Clone(b.w.Segs), spare, spare, spare)
		given := b.w
		given.Segs = segs[: 2 : 2+n]
		x := &call{o: seal()}
		m, y := copied(t, b.m), b.x.clone()
		run(t, m, x.program(b.c, given))
		y.roll()
		wantWriter(t, "with spare room", x.w, y.writer())
		want := append(slices.Clone(b.w.Segs), spare, spare, spare)
		if !slices.Equal(segs, want) {
			t.Fatalf("handed in, and turned: %+v", segs)
		}
		for i := range segs {
			segs[i].Docs += 50
		}
		wantWriter(t, "behind a turn of what was handed in", x.w, y.writer())
		copy(segs, want)
		all := x.w.Segs[:cap(x.w.Segs)]
		for i := range all {
			all[i].Addr = 1234
		}
		if !slices.Equal(segs, want) {
			t.Fatal("an answer that shares what was handed in")
		}
	}
}

// copied is a memory that holds the same.
func copied(t *testing.T, m *mem.Mem) *mem.Mem {
	t.Helper()
	n, err := mem.New(m.Len())
	if err != api.OK {
		t.Fatal(err)
	}
	for a, v := range m.Cells() {
		n.Store(a, v)
	}
	return n
}

// P16.1: the writer of an answer may be used more than once; each call goes by what it is handed.
func TestFromOneWriter(t *testing.T) {
	b := newBench(t, wide())
	b.all(add(1, "fox cat"), add(2, "dog"), del(1), seal(), add(3, "cat"))
	for range 3 {
		m, x, y := copied(t, b.m), &call{o: seal()}, b.x.clone()
		if _, err := y.roll(); err != api.OK {
			t.Fatal(err)
		}
		run(t, m, x.program(b.c, b.w))
		wantWriter(t, "one of several", x.w, y.writer())
	}
}

// badConfs are configurations that may not be, each by one number.
func badConfs() map[string]api.Conf {
	all := map[string]api.Conf{}
	for name, turn := range map[string]func(c *api.Conf){
		"no docs": func(c *api.Conf) { c.Docs = 0 }, "docs below 0": func(c *api.Conf) { c.Docs = -1 }, "too many docs": func(c *api.Conf) { c.Docs = 65 },
		"too few terms": func(c *api.Conf) { c.Terms = 63 }, "too many terms": func(c *api.Conf) { c.Terms = 257 },
		"slabs 0 below 0": func(c *api.Conf) { c.Slabs[0] = -1 }, "slabs 0": func(c *api.Conf) { c.Slabs[0] = 513 },
		"slabs 3 below 0": func(c *api.Conf) { c.Slabs[3] = -1 }, "slabs 3": func(c *api.Conf) { c.Slabs[3] = 513 },
		"book below 0": func(c *api.Conf) { c.Book = -1 }, "book": func(c *api.Conf) { c.Book = 65537 },
		"room below 0": func(c *api.Conf) { c.Room = -1 }, "room": func(c *api.Conf) { c.Room = 65537 },
		"all together": func(c *api.Conf) { c.Slabs = [4]int{}; c.Book, c.Room = 60000, 5534 },
	} {
		c := wide()
		turn(&c)
		all[name] = c
	}
	return all
}

// P16.1: a writer without segments, one with more documents than its configuration takes, or a configuration that may not be, is none that the layers told: ErrArg, and nothing is stored.
func TestArg(t *testing.T) {
	b := newBench(t, wide())
	b.all(add(1, "fox"))
	stores := b.m.Stores()
	try := func(what string, c api.Conf, w api.Writer) {
		t.Helper()
		x := &call{o: seal()}
		r := step.New(b.m)
		for !r.Step(x.program(c, w)) {
		}
		if x.err != api.ErrArg {
			t.Errorf("%s: %v", what, x.err)
		}
		wantWriter(t, what, x.w, api.Writer{})
	}
	for name, c := range badConfs() {
		try(name, c, b.w)
	}
	try("without segments", b.c, api.Writer{})
	try("without segments, but with more", b.c, api.Writer{Terms: 1, Version: 1, Used: b.w.Used})
	for _, docs := range []int{17, 65, 1 << 40, math.MaxInt} {
		w := b.w
		w.Segs = []api.Seg{{Addr: b.w.Segs[0].Addr, Docs: docs}}
		try(strconv.Itoa(docs)+" documents", b.c, w)
	}
	if b.m.Stores() != stores {
		t.Errorf("%d stores", b.m.Stores()-stores)
	}
	b.wantCells("behind these")
	b.all(seal())
}

// P16.1: without a run, or outside of its Steps, calls end, and nothing is stored.
func TestNoRun(t *testing.T) {
	b := newBench(t, wide())
	b.all(add(1, "fox"), seal(), add(2, "dog"))
	stores := b.m.Stores()
	for _, r := range []*step.Run{nil, step.New(nil), step.New(b.m)} {
		for _, w := range []api.Writer{b.w, {}, {Segs: make([]api.Seg, 3)}, {Segs: []api.Seg{{Docs: math.MaxInt}}}, {Segs: []api.Seg{{Docs: math.MinInt}}}} {
			for _, c := range []api.Conf{b.c, {}} {
				roll.Roll(r, c, w)
			}
		}
	}
	b.wantCells("behind calls without a run")
	if b.m.Stores() != stores {
		t.Errorf("%d stores", b.m.Stores()-stores)
	}
}
