package write_test

import (
	"math"
	"slices"
	"strconv"
	"strings"
	"testing"

	"plover/api"
	"plover/mem"
	"plover/step"
	"plover/write"
)

// wide is a configuration with room for much.
func wide() api.Conf {
	return api.Conf{Docs: 16, Terms: 64, Slabs: [4]int{100, 20, 10, 3}, Book: 500, Room: 1500}
}

// junk is unlike every number that these tests store, so that each store shows.
func junk(a int) uint32 {
	return 0xDEAD0000 + uint32(a)
}

// filled is a memory in which each cell holds what value tells of it.
func filled(t *testing.T, n int, value func(a int) uint32) *mem.Mem {
	t.Helper()
	m, err := mem.New(n)
	if err != api.OK {
		t.Fatalf("New(%d) = %v", n, err)
	}
	for a := range n {
		m.Store(a, value(a))
	}
	return m
}

// times is a word so many times, with blanks between.
func times(word string, n int) string {
	return strings.TrimSpace(strings.Repeat(word+" ", n))
}

// words are n words that are unlike, from a number on.
func words(from, n int) string {
	var l []string
	for i := range n {
		l = append(l, "w"+strconv.Itoa(from+i))
	}
	return strings.Join(l, " ")
}

// P12.1: the chapter's example.
func TestExample(t *testing.T) {
	none := wide()
	none.Slabs = [4]int{}
	newBench(t, none).wants(api.ErrFull, add(7, "fox fox"))

	b := newBench(t, wide())
	b.wants(api.OK, add(7, "fox fox"))
	wantVersion(t, b, 1)
	b.wants(api.ErrDup, add(7, "fox fox"))
	b.wants(api.OK, del(7))
	wantVersion(t, b, 2)
	b.wants(api.ErrNoDoc, del(7))
	b.wants(api.ErrDup, add(7, "fox fox"))
	wantVersion(t, b, 2)
}

// wantVersion holds the writer's version and the cell 1 against the one wanted.
func wantVersion(t *testing.T, b *bench, v uint32) {
	t.Helper()
	if got := b.m.Cells()[1]; got != v || b.w.Version != v {
		t.Fatalf("the version %d, in the cell 1 %d, want %d", b.w.Version, got, v)
	}
}

// badConfs are configurations that may not be, each by one number.
func badConfs() map[string]api.Conf {
	all := map[string]api.Conf{}
	for name, turn := range map[string]func(c *api.Conf){
		"no docs": func(c *api.Conf) { c.Docs = 0 }, "too many docs": func(c *api.Conf) { c.Docs = 65 },
		"too few terms": func(c *api.Conf) { c.Terms = 63 }, "too many terms": func(c *api.Conf) { c.Terms = 257 },
		"slabs 0 below 0": func(c *api.Conf) { c.Slabs[0] = -1 }, "slabs 0": func(c *api.Conf) { c.Slabs[0] = 513 },
		"slabs 1 below 0": func(c *api.Conf) { c.Slabs[1] = -1 }, "slabs 1": func(c *api.Conf) { c.Slabs[1] = 513 },
		"slabs 2 below 0": func(c *api.Conf) { c.Slabs[2] = -1 }, "slabs 2": func(c *api.Conf) { c.Slabs[2] = 513 },
		"slabs 3 below 0": func(c *api.Conf) { c.Slabs[3] = -1 }, "slabs 3": func(c *api.Conf) { c.Slabs[3] = 513 },
		"book below 0": func(c *api.Conf) { c.Book = -1 }, "book": func(c *api.Conf) { c.Book = 65537 },
		"room below 0": func(c *api.Conf) { c.Room = -1 }, "room": func(c *api.Conf) { c.Room = 65537 },
		"all together": func(c *api.Conf) { c.Slabs = [4]int{}; c.Book, c.Room = 60000, 5534 },
	} {
		c := wide()
		turn(&c)
		all[name] = c
	}
	return all
}

// P12.1: New answers each of Lay's errors, whatever the memory is, and leaves it as it is.
func TestNewOfNoPlan(t *testing.T) {
	for name, c := range badConfs() {
		for _, n := range []int{0, 1, 3, 653, 4403, api.MaxCells} {
			var m *mem.Mem
			if n > 0 {
				m = filled(t, n, junk)
			}
			wantRefused(t, name, m, c, api.ErrArg)
		}
	}
	c := wide()
	c.Slabs, c.Book, c.Room = [4]int{}, 60000, 5533 // together just as many as may be
	if _, err := write.New(filled(t, api.MaxCells, junk), c); err != api.OK {
		t.Errorf("all cells that may be: %v", err)
	}
}

// wantRefused holds New's error against the one wanted, and the memory against what it was.
func wantRefused(t *testing.T, what string, m *mem.Mem, c api.Conf, want api.Errno) {
	t.Helper()
	was, stores := m.Cells(), m.Stores()
	w, err := write.New(m, c)
	if err != want {
		t.Errorf("%s: %v, want %v", what, err, want)
	}
	wantWriter(t, what, w, api.Writer{})
	wantCells(t, what, m, was)
	if m.Stores() != stores {
		t.Errorf("%s: %d stores", what, m.Stores()-stores)
	}
}

// P12.1: New takes a memory of just the plan's cells: one cell more, one less, or none at all is ErrArg, also where the room is too small.
func TestNewMemory(t *testing.T) {
	small := wide()
	small.Room = 5
	for _, c := range []api.Conf{wide(), small, {Docs: 1, Terms: 64, Room: 135}, {Docs: 64, Terms: 256, Book: 1, Room: 771}} {
		n := laid(t, c).Cells
		for _, k := range []int{1, n - 100, n - 1, n + 1, n + 100, api.MaxCells} {
			wantRefused(t, "a memory of "+strconv.Itoa(k-n)+" cells more", filled(t, k, junk), c, api.ErrArg)
		}
		wantRefused(t, "no memory", nil, c, api.ErrArg)
	}
}

// P12.1: New takes a room of just Live and 2 cells; of one cell less, down to none, it is ErrFull.
func TestNewRoom(t *testing.T) {
	for _, x := range []struct{ docs, terms, live int }{
		{1, 64, 133}, {64, 64, 385}, {1, 127, 133}, {1, 128, 261}, {2, 255, 265}, {1, 256, 517}, {64, 256, 769},
	} {
		for _, more := range []int{0, 1, 500} {
			c := api.Conf{Docs: x.docs, Terms: x.terms, Slabs: [4]int{3, 2, 1, 1}, Book: 10, Room: x.live + 2 + more, K: math.NaN(), B: math.Inf(-1)}
			newBench(t, c)
		}
		for _, room := range []int{0, 1, 2, x.live - 1, x.live, x.live + 1} {
			c := api.Conf{Docs: x.docs, Terms: x.terms, Slabs: [4]int{3, 2, 1, 1}, Book: 10, Room: room}
			wantRefused(t, "a room of "+strconv.Itoa(room), filled(t, laid(t, c).Cells, junk), c, api.ErrFull)
		}
	}
}

// P12.1: New stores three cells, and no other: the manifest's two, and in the cell 2 where it lies.
func TestNewStores(t *testing.T) {
	c := api.Conf{Docs: 2, Terms: 64, Slabs: [4]int{2, 1}, Book: 10, Room: 200}
	m := filled(t, 237, junk)
	want, stores := m.Cells(), m.Stores()
	w, err := write.New(m, c)
	if err != api.OK {
		t.Fatal(err)
	}
	want[174], want[175], want[2] = 1, 37, 174
	wantCells(t, "behind New", m, want)
	if m.Stores() != stores+3 || m.Loads() != 0 {
		t.Errorf("%d stores, %d loads", m.Stores()-stores, m.Loads())
	}
	wantWriter(t, "New", w, api.Writer{Segs: []api.Seg{{Addr: 37}}, Used: [api.Pools]int{api.Room: 139}})
}

// P12.1: the rows of a sealed segment begin one cell further on than those of a live one.
func TestBase(t *testing.T) {
	for _, a := range []int{0, 1, 3, 37, 65535, -5} {
		for _, docs := range []int{0, 1, 64} {
			if got := write.Base(api.Seg{Addr: a, Docs: docs}); got != a+1 {
				t.Errorf("Base of a live one at %d: %d", a, got)
			}
			if got := write.Base(api.Seg{Addr: a, Docs: docs, Sealed: true}); got != a+2 {
				t.Errorf("Base of a sealed one at %d: %d", a, got)
			}
		}
	}
}

// slotOf is the slot of a key where all are empty.
func slotOf(key string, n int) int {
	h := uint64(2166136261)
	for _, v := range []byte(key) {
		h = (h ^ uint64(v)) * 16777619 % (1 << 32)
	}
	return int(h % uint64(n))
}

// trace goes on with a call to its end, and tells what it stores, Step by Step: each cell must turn by its store.
func trace(t *testing.T, m *mem.Mem, x *call, c api.Conf, w api.Writer) []store {
	t.Helper()
	var l []store
	program, r := x.program(c, w), step.New(m)
	for over := false; !over; {
		was, stores := m.Cells(), m.Stores()
		over = r.Step(program)
		turned := 0
		for a, v := range m.Cells() {
			if v != was[a] {
				l = append(l, store{a, v})
				turned++
			}
		}
		if turned != m.Stores()-stores || turned > 1 {
			t.Fatalf("a Step with %d stores turned %d cells", m.Stores()-stores, turned)
		}
	}
	if r.Err() != api.OK || x.err != api.OK {
		t.Fatalf("the run: %v, the call: %v", r.Err(), x.err)
	}
	return l
}

// P12.1: what Adds and a Delete store, in this order, Step by Step, reckoned by hand; the version is stored last.
func TestStoresInOrder(t *testing.T) {
	c := api.Conf{Docs: 2, Terms: 64, Slabs: [4]int{2, 1}, Book: 10, Room: 200}
	m := filled(t, 237, func(a int) uint32 {
		if a >= 3 && a < 37 {
			return junk(a) // the slabs and the book
		}
		return 0
	})
	w, err := write.New(m, c)
	if err != api.OK {
		t.Fatal(err)
	}
	fox, lynxes := 46+slotOf("\x00fox", 128), 46+slotOf("\x03lynxes", 128)
	for i, x := range []struct {
		o    api.Op
		want []store
		w    api.Writer
	}{
		{add(7, "Fox, the FOX"), []store{
			{28, 4}, {29, 0x786F6600}, {fox, 27}, {4, 0}, {27, 4},
			{5, 2}, {27, 5},
			{39, 7}, {40, 2}, {38, 1}, {1, 1},
		}, api.Writer{Segs: []api.Seg{{Addr: 37, Docs: 1}}, Terms: 1, Version: 1, Used: [6]int{4, 0, 0, 0, 3, 139}}},
		{del(7), []store{{41, 2}, {1, 2}},
			api.Writer{Segs: []api.Seg{{Addr: 37, Docs: 1}}, Terms: 1, Version: 2, Used: [6]int{4, 0, 0, 0, 3, 139}}},
		{add(4000000000, "a fox fox", "", "and", "lynxes!"), []store{
			{6, 65537}, {27, 6},
			{11, 6}, {12, 65538}, {27, 12},
			{31, 7}, {32, 0x6E796C03}, {33, 0x736578}, {lynxes, 30}, {8, 65536}, {30, 8},
			{43, 4000000000}, {44, 3}, {42, 3}, {1, 3},
		}, api.Writer{Segs: []api.Seg{{Addr: 37, Docs: 2}}, Terms: 2, Version: 3, Used: [6]int{8, 16, 0, 0, 7, 139}}},
		{del(4000000000), []store{{45, 4}, {1, 4}},
			api.Writer{Segs: []api.Seg{{Addr: 37, Docs: 2}}, Terms: 2, Version: 4, Used: [6]int{8, 16, 0, 0, 7, 139}}},
	} {
		y := &call{o: x.o}
		if got := trace(t, m, y, c, w); !slices.Equal(got, x.want) {
			t.Fatalf("%d: stores %v, want %v", i, got, x.want)
		}
		wantWriter(t, strconv.Itoa(i), y.w, x.w)
		w = y.w
	}
}

// P12.1: a document of too many fields, of too long a field, of too many words: ErrTooLong, behind one Step and no access; at the limits it isn't.
func TestAddTooLong(t *testing.T) {
	long := strings.Repeat("x", api.MaxText)
	for _, fields := range [][]string{
		{"fox", "fox", "fox", "fox", "fox"}, {"", "", "", "", ""}, make([]string, 4000),
		{long + "x"}, {"", "", "", long + "x"}, {strings.Repeat(" ", 513)}, {strings.Repeat("the ", 128) + "a"},
		{times("x", 65)}, {times("x", 16), times("x", 16), times("x", 16), times("x", 17)}, {times("x", 64), "", "", "y"},
	} {
		b := newBench(t, wide())
		b.all(add(1, "fox"), add(2, "dog", "dog"))
		was, loads, stores := b.m.Cells(), b.m.Loads(), b.m.Stores()
		for _, id := range []uint32{1, 2, 3} { // also of an id that is there
			x := &call{o: add(id, fields...)}
			r := step.New(b.m)
			if !r.Step(x.program(b.c, b.w)) || r.Count() != 0 || r.Err() != api.OK || x.err != api.ErrTooLong {
				t.Errorf("%d fields: behind a Step %v, with %d accesses, %v", len(fields), r.Over(), r.Count(), x.err)
			}
			wantWriter(t, "beside an error", x.w, api.Writer{})
		}
		wantCells(t, "behind these", b.m, was)
		if b.m.Loads() != loads || b.m.Stores() != stores {
			t.Errorf("%d loads, %d stores", b.m.Loads()-loads, b.m.Stores()-stores)
		}
	}
	b := newBench(t, wide())
	b.all(add(1, long, long, long, long), add(2, times("x", 64)), add(3, times("x", 16), times("x", 16), times("x", 16), times("x", 16)),
		add(4, "", "", "", strings.Repeat("the ", 128)), add(5, strings.Repeat(" ", 512)))
}

// P12.1: ErrDup is answered by a row of the live segment and of each sealed one, whatever the document has, also where it was deleted.
func TestAddDup(t *testing.T) {
	const most = math.MaxUint32
	b := newBench(t, wide())
	b.all(add(5, "fox"), add(0, "dog"), add(most, "cat"), del(0), roll(), add(6, "fox"), roll(), roll(), add(7, "hare"), add(8, "ox"), del(7), del(most))
	for _, id := range []uint32{5, 0, most, 6, 7, 8} {
		for _, fields := range [][]string{nil, {"fox"}, {"new", "ones"}, {times("x", 64)}} {
			b.wants(api.ErrDup, add(id, fields...))
		}
	}
	b.all(add(1, "fox"), add(most-1, "fox"), add(4, "fox"), add(9, "fox"), add(1<<31, "fox"))
	b.wants(api.ErrDup, add(1<<31, "fox"))
}

// P12.1: an id that no row has isn't there, also where a row that isn't laid yet holds as much: 0.
func TestIdsOfNoRow(t *testing.T) {
	b := newBench(t, wide())
	b.wants(api.ErrNoDoc, del(0))
	b.all(roll(), add(0, "fox"))
	b.wants(api.ErrDup, add(0, "fox"))

	b = newBench(t, wide())
	b.all(add(3, "fox"), roll(), add(2, "fox"))
	b.wants(api.ErrNoDoc, del(0))
	b.all(add(0, "dog"), del(0))
}

// P12.1: ErrSegFull where the live segment has Docs documents, whatever the next one has; in a new segment there is room again.
func TestAddSegFullByDocs(t *testing.T) {
	for _, docs := range []int{1, 2, 5, 64} {
		c := wide()
		c.Docs, c.Room = docs, 4000
		b := newBench(t, c)
		for s := range uint32(3) {
			for d := range uint32(docs) {
				b.all(add(100*s+d, []string{"fox", ""}[d%2]))
			}
			b.all(del(100 * s)) // what is deleted has its row still
			for _, fields := range [][]string{nil, {"fox"}, {"new"}} {
				b.wants(api.ErrSegFull, add(999, fields...))
			}
			b.all(roll())
		}
	}
}

// P12.1: ErrSegFull where the terms would be more than Terms: at the limit, and one beyond it; those that are there count once, one in several fields several times.
func TestAddSegFullByTerms(t *testing.T) {
	for _, terms := range []int{64, 65, 127, 128, 200, 255, 256} {
		c := api.Conf{Docs: 64, Terms: terms, Slabs: [4]int{500, 10, 5, 3}, Book: 2000, Room: 3000}
		b := newBench(t, c)
		n := 0
		for terms-n > 64 {
			b.all(add(uint32(n), words(n, 50)))
			n += 50
		}
		if left := terms - n; left < 64 {
			b.wants(api.ErrSegFull, add(1000, words(n, left+1)))
		}
		b.all(add(1001, words(n, terms-n-2)))
		b.wants(api.ErrSegFull, add(1002, "new newer newest"))
		b.wants(api.ErrSegFull, add(1002, "new", "new", "new"))
		b.all(add(1003, "w0 new new NEW w1"))
		b.wants(api.ErrSegFull, add(1004, "new", "new w0"))
		b.wants(api.ErrSegFull, add(1004, "newer w0 newest"))
		b.all(add(1005, "new w0", "new"))
		for _, fields := range [][]string{{"newer"}, {"w0 w1 newer"}, {"", "w0"}, {"", "", "new"}, {"newer", "new"}} {
			b.wants(api.ErrSegFull, add(1006, fields...))
		}
		b.all(add(1007, times("new w0", 4), "new"), add(1008), add(1009, "the", "a", "of", "to"))
		b.all(roll(), add(1010, words(500, 50), "w0", "new", words(600, 12)))
	}
}

// P12.1: ErrFull where the book has a cell too few for the new terms of a document; of just enough it isn't. Terms that are there take none.
func TestAddFullByBook(t *testing.T) {
	for _, x := range []struct {
		n      int // cells of the book
		fields []string
	}{
		{3, []string{"x"}}, {3, []string{"fox"}}, {4, []string{"hare"}}, {4, []string{"", "rabbits"}}, {5, []string{"mongoose"}}, {6, []string{strings.Repeat("x", 12)}},
		{6, []string{strings.Repeat("x", 15)}}, {7, []string{strings.Repeat("x", 16)}}, {7, []string{strings.Repeat("x", 17)}}, {6, []string{strings.Repeat("\u4e00", 9)}},
		{3, []string{times("fox", 30)}}, {6, []string{"fox dog"}}, {6, []string{"fox", "fox"}}, {12, []string{"fox", "fox", "fox", "fox"}},
		{14, []string{"the fox dog hare of fox", "hare"}}, {64 * 3, []string{words(10, 64)}},
	} {
		for have := range 3 {
			c := wide()
			c.Terms, c.Book = 127, 3*have+x.n // of terms that are there, and of the document
			some := words(0, have)
			b := newBench(t, c)
			b.all(add(1, some))
			b.all(add(2, x.fields...), add(3, x.fields...), add(4, some))
			b.wants(api.ErrFull, add(5, "newest"))
			b.all(add(6), roll())
			b.wants(api.ErrFull, add(7, x.fields...)) // in the new segment no term is there, and the book isn't given back

			c.Book--
			b = newBench(t, c)
			b.all(add(1, some))
			b.wants(api.ErrFull, add(2, x.fields...))
			b.all(add(3, some))
			b.wants(api.ErrFull, add(4, x.fields...))
		}
	}
}

// P12.1: ErrFull where a class of slabs has one too few for a document's words, of one term and of several; of just enough it isn't.
func TestAddFullBySlabs(t *testing.T) {
	for _, x := range []struct {
		slabs [4]int
		n     int // how many words of one term there is room for
	}{
		{[4]int{}, 0}, {[4]int{0, 5, 5, 3}, 0}, {[4]int{1, 0, 5, 3}, 3}, {[4]int{5, 0, 0, 0}, 3}, {[4]int{1, 1, 0, 3}, 18}, {[4]int{3, 2, 0, 0}, 18},
		{[4]int{1, 1, 1, 0}, 81}, {[4]int{2, 2, 2, 0}, 81}, {[4]int{1, 1, 1, 1}, 336}, {[4]int{1, 1, 1, 2}, 591},
	} {
		c := wide()
		c.Slabs = x.slabs
		for _, part := range []int{1, 2, 7, 64} { // in documents of so many words
			if x.n/part >= c.Docs-2 {
				continue
			}
			b := newBench(t, c)
			id, n := uint32(0), 0
			for ; n+part <= x.n; n += part {
				b.all(add(id, times("x", part)))
				id++
			}
			b.wants(api.ErrFull, add(1000, times("x", x.n-n+1)))
			b.wants(api.ErrFull, add(1000, times("x", 64)))
			b.all(add(1001, times("x", x.n-n)))
			b.wants(api.ErrFull, add(1002, "x"))
			b.all(add(1003, "the"))
		}
	}
}

// P12.1: what terms take of the slabs is added up: each would have room by itself, all of them haven't.
func TestAddFullByAllTerms(t *testing.T) {
	for _, x := range []struct {
		slabs  [4]int
		ahead  string
		fields []string
	}{
		{[4]int{2, 0, 0, 0}, "", []string{"fox dog"}},
		{[4]int{2, 0, 0, 0}, "", []string{"fox", "fox"}},
		{[4]int{3, 0, 0, 0}, "cat", []string{"fox cat dog cat"}},
		{[4]int{2, 2, 0, 0}, "", []string{times("fox dog", 4)}},
		{[4]int{2, 2, 0, 0}, times("fox", 3), []string{"fox dog dog dog dog"}},
		{[4]int{2, 2, 0, 0}, times("fox dog", 3), []string{"fox dog"}},
		{[4]int{2, 2, 2, 0}, times("fox dog", 18), []string{"fox dog"}},
		{[4]int{3, 2, 1, 0}, times("fox dog", 10) + " " + times("fox", 8), []string{"fox cat"}},
		{[4]int{64, 0, 0, 0}, "", []string{words(0, 64)}},
	} {
		c := wide()
		c.Terms, c.Slabs = 100, x.slabs
		b := newBench(t, c)
		b.all(add(1, x.ahead), add(2, x.fields...))
		b.wants(api.ErrFull, add(3, "another"))
		for k := range 4 {
			if x.slabs[k] == 0 {
				continue
			}
			c.Slabs = x.slabs
			c.Slabs[k]--
			b := newBench(t, c)
			if err := b.do(add(1, x.ahead)); err == api.OK {
				b.wants(api.ErrFull, add(2, x.fields...))
			}
		}
	}
}

// P12.1: where several errors hold at once, the first one by the chapter is answered.
func TestAddFirstError(t *testing.T) {
	c := api.Conf{Docs: 2, Terms: 64, Slabs: [4]int{64, 0, 0, 0}, Book: 64 * 3, Room: 700}
	b := newBench(t, c)
	b.all(add(7, words(10, 64)))
	five, long := make([]string, 5), strings.Repeat("new ", 129)
	for range 2 { // behind a document more it is full by Docs, too
		b.wants(api.ErrTooLong, add(7, five...))
		b.wants(api.ErrTooLong, add(7, long))
		b.wants(api.ErrTooLong, add(9, times("new", 65)))
		b.wants(api.ErrDup, add(7, "new")) // full by Terms, the book and the slabs
		b.wants(api.ErrDup, add(7, times("w10", 4)))
		b.wants(api.ErrDup, add(7))
		b.wants(api.ErrSegFull, add(9, "new"))
		b.wants(api.ErrSegFull, add(9, times("w10 new", 30)))
		if len(b.x.segs[0].rows) == 1 {
			b.wants(api.ErrFull, add(9, times("w10", 4)))
			b.all(add(8, "w10 w10"))
			continue
		}
		b.wants(api.ErrSegFull, add(9, times("w10", 4)))
		b.wants(api.ErrSegFull, add(9, "w11"))
		b.wants(api.ErrSegFull, add(9))
	}
	b.all(roll())
	b.wants(api.ErrDup, add(8, "new"))
	b.wants(api.ErrFull, add(9, "new"))
	b.all(add(9))
}

// P12.1: a document without words takes no term, no slab and no cell of the book; its row is laid.
func TestAddWithoutWords(t *testing.T) {
	c := api.Conf{Docs: 9, Terms: 64, Room: 200}
	b := newBench(t, c)
	for i, fields := range [][]string{nil, {}, {""}, {"", "", "", ""}, {"the", "a of"}, {" \n-.\xff\xfe"}, {"The TO oF"}} {
		b.all(add(uint32(i), fields...))
	}
	b.wants(api.ErrFull, add(50, "x"))
	b.all(del(3), add(60))
	if len(b.w.Segs) != 1 || b.w.Segs[0].Docs != 8 || b.w.Terms != 0 || b.w.Used != [6]int{5: 167} {
		t.Errorf("%+v", b.w)
	}
}

// P12.1: words that come several times, in one field and in several, in cases of all kinds; terms that are there and such that are new, of one document and of one behind it.
func TestAddWords(t *testing.T) {
	b := newBench(t, wide())
	b.all(
		add(1, "fox dog fox the fox dog"),
		add(2, "fox", "fox fox", "", "dog fox dog"),
		add(3, "Cat DOG cat", "FOX cat", "fox", "fox"),
		add(4, "\u0391\u03a3 \u03b1\u03c2 x1 1x \u0661", "\u03b1\u03c3 11"),
		add(5, "abcdefghijklmnopq abcdefghijklmnop abcdefghijklmnopr abcdefghijklmno"),
		add(6, times("fox", 20), times("cat", 20), times("dog", 20)),
		roll(),
		add(8, "fox dog fox", "hare"),
		add(9, "hare fox", "hare cat"),
	)
	if b.w.Terms != 5 || b.w.Version != 8 {
		t.Errorf("%d terms, the version %d", b.w.Terms, b.w.Version)
	}
}

// alike are n words of the field 0 whose keys have one slot of so many as their first one.
func alike(n, slots, slot int) string {
	var l []string
	for i := 0; len(l) < n; i++ {
		if s := "w" + strconv.Itoa(i); slotOf("\x00"+s, slots) == slot {
			l = append(l, s)
		}
	}
	return strings.Join(l, " ")
}

// P12.1: new terms of one document whose slots are one at first, up to the last slot and from it to the first one.
func TestAddSlotsAlike(t *testing.T) {
	for _, slot := range []int{0, 60, 125, 126, 127} {
		b := newBench(t, wide())
		b.all(add(1, alike(5, 128, slot)), add(2, alike(9, 128, slot)), add(3, alike(7, 128, slot)+" "+alike(5, 128, (slot+1)%128)), add(4, alike(12, 128, slot)))
		b.all(roll(), add(5, alike(12, 128, (slot+3)%128)))
	}
}

// P12.1: of an id that is there, in the live segment and in sealed ones, Delete makes a version; of one that isn't, and of one that was deleted, it is ErrNoDoc.
func TestDelete(t *testing.T) {
	const most = math.MaxUint32
	b := newBench(t, wide())
	for _, id := range []uint32{0, 1, most} {
		b.wants(api.ErrNoDoc, del(id))
	}
	b.all(add(1, "fox"), add(most, "fox dog"), add(0), del(most), roll(), roll(), add(4, "dog"), roll(), add(5, "cat"), add(6, "fox"))
	b.wants(api.ErrNoDoc, del(most))
	for _, id := range []uint32{6, 0, 4, 1, 5} {
		b.wants(api.ErrNoDoc, del(id+20))
		b.all(del(id))
		for range 2 {
			b.wants(api.ErrNoDoc, del(id))
		}
		b.wants(api.ErrDup, add(id, "fox"))
	}
	b.all(roll(), add(7))
	b.wants(api.ErrNoDoc, del(5))
	b.all(del(7))
	wantVersion(t, b, 14)
}

// P12.1: neither the pools nor the segments being full stands against a Delete.
func TestDeleteFull(t *testing.T) {
	c := api.Conf{Docs: 1, Terms: 64, Slabs: [4]int{1, 0, 0, 0}, Book: 3, Room: 135}
	b := newBench(t, c)
	b.all(add(7, "fox fox fox"))
	b.wants(api.ErrSegFull, add(8, "fox"))
	b.all(del(7))
	b.wants(api.ErrSegFull, add(8))
}

// P12.1: what is handed in is left as it is and not kept, and an answer is new memory.
func TestHandedIn(t *testing.T) {
	b := newBench(t, wide())
	b.all(add(1, "fox"), roll(), add(2, "dog"))
	spare := api.Seg{Addr: -1, Docs: -2}
	segs := append(slices.Clone(b.w.Segs), spare, spare)
	given := b.w
	given.Segs = segs[:2]
	fields := []string{"fox", "dog cat", "left", "spare"}
	ox := api.Op{Kind: api.Add, Doc: api.Doc{Id: 3, Fields: fields[:2]}}
	for _, o := range []api.Op{ox, del(1), del(2), add(2), del(3), add(4, times("x", 65))} {
		x := &call{o: o}
		m := filled(t, b.m.Len(), func(a int) uint32 { return b.want[a] })
		for r := step.New(m); !r.Step(x.program(b.c, given)); {
		}
		wantSegs := append(slices.Clone(b.w.Segs), spare, spare)
		if !slices.Equal(segs, wantSegs) || !slices.Equal(fields, []string{"fox", "dog cat", "left", "spare"}) {
			t.Fatalf("%+v: handed in, and turned: %+v, %q", o, segs, fields)
		}
		was := x.w
		was.Segs = slices.Clone(x.w.Segs)
		for i := range segs {
			segs[i].Docs += 50
		}
		wantWriter(t, "behind a turn of what was handed in", x.w, was)
		segs = append(segs[:0], wantSegs...)
		for i := range x.w.Segs {
			x.w.Segs[i].Addr = 1234
		}
		_ = append(x.w.Segs, spare, spare, api.Seg{})
		if !slices.Equal(segs, wantSegs) {
			t.Fatalf("%+v: an answer that shares what was handed in", o)
		}
	}
}

// P12.1: the writer of an answer may be used more than once; each call goes by what it is handed.
func TestFromOneWriter(t *testing.T) {
	b := newBench(t, wide())
	b.all(add(1, "fox"), add(2, "dog"), del(1))
	for _, o := range []api.Op{add(3, "fox cat"), del(2), add(4, "hare"), add(3, "fox cat")} {
		m := filled(t, b.m.Len(), func(a int) uint32 { return b.want[a] })
		x, y := &call{o: o}, b.x.clone()
		if _, err := y.do(o); err != api.OK {
			t.Fatal(err)
		}
		for r := step.New(m); !r.Step(x.program(b.c, b.w)); {
		}
		wantWriter(t, "one of several", x.w, y.writer())
	}
}

// P12.1: without a run, or outside of its Steps, calls end, and nothing is stored.
func TestNoRun(t *testing.T) {
	b := newBench(t, wide())
	b.all(add(1, "fox"), roll(), add(2, "dog"))
	stores := b.m.Stores()
	for _, r := range []*step.Run{nil, step.New(nil), step.New(b.m)} {
		for _, w := range []api.Writer{b.w, {}, {Segs: make([]api.Seg, 3)}} {
			for _, c := range []api.Conf{b.c, {}} {
				write.Add(r, c, w, api.Doc{Id: 3, Fields: []string{"fox dog cat"}})
				write.Add(r, c, w, api.Doc{Fields: []string{times("x", 64)}})
				write.Delete(r, c, w, 1)
				write.Delete(r, c, w, 0)
				if _, err := write.Add(r, c, w, api.Doc{Fields: make([]string, 5)}); err != api.ErrTooLong {
					t.Error(err)
				}
			}
		}
	}
	wantCells(t, "behind calls without a run", b.m, b.want)
	if b.m.Stores() != stores {
		t.Errorf("%d stores", b.m.Stores()-stores)
	}
}

// P12.1: a writer without segments, or a configuration that may not be, is none that New told: ErrArg of Add, and nothing is stored.
func TestAddArg(t *testing.T) {
	b := newBench(t, wide())
	b.all(add(1, "fox"))
	try := func(c api.Conf, w api.Writer) api.Errno {
		x := &call{o: add(2, "dog")}
		r := step.New(b.m)
		for !r.Step(x.program(c, w)) {
		}
		return x.err
	}
	for name, c := range badConfs() {
		if err := try(c, b.w); err != api.ErrArg {
			t.Errorf("%s: %v", name, err)
		}
	}
	if err := try(b.c, api.Writer{}); err != api.ErrArg {
		t.Errorf("without segments: %v", err)
	}
	wantCells(t, "behind these", b.m, b.want)
}
