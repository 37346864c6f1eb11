package post_test

import (
	"math"
	"slices"
	"testing"

	"plover/api"
	"plover/mem"
	"plover/pool"
	"plover/post"
	"plover/step"
)

type counts = [api.Pools]int

// example is the chapter's, with a second slab of class 3: slabs at 3, 7, 23, 87 and 343, 609 cells in all.
func example() api.Conf {
	return api.Conf{Docs: 1, Terms: 64, Slabs: [4]int{1, 1, 1, 2}, Book: 4, Room: 6}
}

// small has slabs enough for a few short terms.
func small() api.Conf {
	return api.Conf{Docs: 1, Terms: 64, Slabs: [4]int{4, 3, 2, 1}, Book: 5, Room: 7}
}

// confs are configurations whose slabs lie in many ways, classes without a slab among them.
func confs() []api.Conf {
	return []api.Conf{
		example(),
		small(),
		{Docs: 1, Terms: 64},
		{Docs: 2, Terms: 64, Slabs: [4]int{3, 0, 0, 0}, Book: 9},
		{Docs: 2, Terms: 65, Slabs: [4]int{0, 2, 0, 1}, Room: 30},
		{Docs: 2, Terms: 66, Slabs: [4]int{2, 1, 0, 2}, Book: 1, Room: 1},
		{Docs: 64, Terms: 256, Slabs: [4]int{9, 7, 5, 3}, Book: 40, Room: 60},
	}
}

func laid(t *testing.T, c api.Conf) api.Plan {
	t.Helper()
	p, err := pool.Lay(c)
	if err != api.OK {
		t.Fatalf("Lay(%+v) = %v", c, err)
	}
	return p
}

// filled is a memory in which each cell holds what value tells of it.
func filled(t *testing.T, n int, value func(a int) uint32) *mem.Mem {
	t.Helper()
	m, err := mem.New(n)
	if err != api.OK {
		t.Fatalf("New(%d) = %v", n, err)
	}
	for a := range n {
		m.Store(a, value(a))
	}
	return m
}

// junk is unlike every word and address that these tests store, so that each store shows.
func junk(a int) uint32 {
	return 0xDEAD0000 + uint32(a)
}

func zero(int) uint32 {
	return 0
}

// spot is where a cell lies: in a slab of a class, at a place in it; the place 0 is the link.
type spot struct{ class, at int }

// spots are all the cells of slabs, counted off from a configuration alone.
func spots(c api.Conf) map[int]spot {
	l := map[int]spot{}
	a := 3
	for class, cells := range []int{4, 16, 64, 256} {
		for range c.Slabs[class] {
			for at := range cells {
				l[a] = spot{class, at}
				a++
			}
		}
	}
	return l
}

// store is one that is wanted of a Put.
type store struct {
	a int
	v uint32
}

// chain is a term as the chapter tells of it: the slabs that it has, and how many words are in the last one.
type chain struct {
	slabs []int // the addresses of their links
	in    int
	words []uint32
}

// sizeAt is how many cells the i-th slab of a term has.
func sizeAt(i int) int {
	return []int{4, 16, 64, 256}[min(i, 3)]
}

// tail is the address of the newest word.
func (x *chain) tail() int {
	if len(x.slabs) == 0 {
		return 0
	}
	return x.slabs[len(x.slabs)-1] + x.in
}

// add adds a word: the stores that this is; false, and nothing is added, if there is no room.
func (x *chain) add(p api.Plan, used *counts, w uint32) ([]store, bool) {
	var l []store
	n := len(x.slabs)
	if n == 0 || x.in == sizeAt(n-1)-1 {
		class := min(n, 3)
		if used[class]+sizeAt(n) > p.Size[class] {
			return nil, false
		}
		link := p.Base[class] + used[class]
		if n > 0 {
			l = append(l, store{link, uint32(x.tail())})
		}
		used[class] += sizeAt(n)
		x.slabs, x.in = append(x.slabs, link), 0
	}
	x.in++
	x.words = append(x.words, w)
	return append(l, store{x.tail(), w}), true
}

// newest are the words that were added, the newest first.
func (x *chain) newest() []uint32 {
	l := slices.Clone(x.words)
	slices.Reverse(l)
	return l
}

// answer is what a Put told.
type answer struct {
	tail int
	used counts
	err  api.Errno
}

// put runs a Put to its end.
func put(t *testing.T, m *mem.Mem, p api.Plan, used counts, tail int, w uint32) answer {
	t.Helper()
	var got answer
	r := step.New(m)
	for !r.Step(func(r *step.Run) { got.tail, got.used, got.err = post.Put(r, p, used, tail, w) }) {
	}
	if r.Err() != api.OK {
		t.Fatalf("the run of a Put from %d: %v", tail, r.Err())
	}
	return got
}

// walk runs a Walk to its end.
func walk(t *testing.T, m *mem.Mem, p api.Plan, tail int) []uint32 {
	t.Helper()
	var got []uint32
	r := step.New(m)
	for !r.Step(func(r *step.Run) { got = post.Walk(r, p, tail) }) {
	}
	if r.Err() != api.OK {
		t.Fatalf("the run of a Walk from %d: %v", tail, r.Err())
	}
	return got
}

// wantAnswer holds a Put's answer against the one wanted.
func wantAnswer(t *testing.T, what string, got, want answer) {
	t.Helper()
	if got != want {
		t.Fatalf("%s: %v, want %v", what, got, want)
	}
}

// wantCells holds the whole memory against what is wanted.
func wantCells(t *testing.T, what string, m *mem.Mem, want []uint32) {
	t.Helper()
	for a, v := range m.Cells() {
		if v != want[a] {
			t.Fatalf("%s: the cell %d holds %d, want %d", what, a, v, want[a])
		}
	}
}

// wantWalk holds what a Walk read against what is wanted.
func wantWalk(t *testing.T, what string, got, want []uint32) {
	t.Helper()
	if !slices.Equal(got, want) {
		t.Fatalf("%s: %v, want %v", what, got, want)
	}
}

// P9.1: the chapter's example.
func TestExample(t *testing.T) {
	c := api.Conf{Docs: 1, Terms: 64, Slabs: [4]int{1, 1, 1, 1}, Book: 10, Room: 300}
	p := laid(t, c)
	m := filled(t, p.Cells, zero)
	tail, used := 0, counts{}
	for i, want := range []int{4, 5, 6, 8} {
		got := put(t, m, p, used, tail, uint32(5+i))
		tail, used = got.tail, got.used
		if tail != want || got.err != api.OK {
			t.Errorf("Put of %d: the tail %d, %v; want %d", 5+i, tail, got.err, want)
		}
	}
	if used != (counts{4, 16}) {
		t.Errorf("used: %v", used)
	}
	if l := m.Cells()[3:9]; !slices.Equal(l, []uint32{0, 5, 6, 7, 6, 8}) {
		t.Errorf("the cells from 3 on hold %v", l)
	}
	wantWalk(t, "Walk from 8", walk(t, m, p, 8), []uint32{8, 7, 6, 5})
	if n := post.Need(p, 6, 1); n != (counts{0, 16}) {
		t.Errorf("Need from 6 of 1: %v", n)
	}
}

// P9.1 and P9.2: through all four classes and into a second slab of class 3, up to where there is no more room: the tails, what is used, each cell, and what is read from each tail.
func TestAllClasses(t *testing.T) {
	p := laid(t, example())
	m := filled(t, p.Cells, junk)
	want := m.Cells()
	var tails []int
	for _, s := range [][2]int{{4, 6}, {8, 22}, {24, 86}, {88, 342}, {344, 598}} {
		for a := s[0]; a <= s[1]; a++ {
			tails = append(tails, a)
		}
	}
	links := map[int]uint32{8: 6, 24: 22, 88: 86, 344: 342} // by the first word behind them
	takes := map[int]counts{4: {4}, 8: {4, 16}, 24: {4, 16, 64}, 88: {4, 16, 64, 256}, 344: {4, 16, 64, 512}}
	tail, used := 0, counts{}
	var newest []uint32
	for i, a := range tails {
		w := uint32(1000 + i)
		got := put(t, m, p, used, tail, w)
		if u, ok := takes[a]; ok {
			used = u
		}
		wantAnswer(t, "Put", got, answer{a, used, api.OK})
		if l, ok := links[a]; ok {
			want[a-1] = l
		}
		want[a] = w
		wantCells(t, "behind a Put", m, want)
		newest = slices.Insert(newest, 0, w)
		tail = a
	}
	wantAnswer(t, "Put without room", put(t, m, p, used, tail, 7), answer{err: api.ErrFull})
	wantCells(t, "behind a Put without room", m, want)
	for i, a := range tails {
		wantWalk(t, "Walk", walk(t, m, p, a), newest[len(newest)-1-i:])
	}
}

// P9.1: Put stores in order, one store a Step, reads nothing, and minds nothing that others store in between.
func TestStoresInOrder(t *testing.T) {
	p := laid(t, example())
	for _, x := range []struct {
		name string
		used counts
		tail int
		want answer
		list []store
	}{
		{"from 0", counts{}, 0, answer{4, counts{4}, api.OK}, []store{{4, 77}}},
		{"within a slab of class 0", counts{4}, 4, answer{5, counts{4}, api.OK}, []store{{5, 77}}},
		{"ahead of the end of class 0", counts{4}, 5, answer{6, counts{4}, api.OK}, []store{{6, 77}}},
		{"at the end of class 0", counts{4}, 6, answer{8, counts{4, 16}, api.OK}, []store{{7, 6}, {8, 77}}},
		{"ahead of the end of class 1", counts{4, 16}, 21, answer{22, counts{4, 16}, api.OK}, []store{{22, 77}}},
		{"at the end of class 1", counts{4, 16}, 22, answer{24, counts{4, 16, 64}, api.OK}, []store{{23, 22}, {24, 77}}},
		{"ahead of the end of class 2", counts{4, 16, 64}, 85, answer{86, counts{4, 16, 64}, api.OK}, []store{{86, 77}}},
		{"at the end of class 2", counts{4, 16, 64}, 86, answer{88, counts{4, 16, 64, 256}, api.OK}, []store{{87, 86}, {88, 77}}},
		{"ahead of the end of class 3", counts{4, 16, 64, 256}, 341, answer{342, counts{4, 16, 64, 256}, api.OK}, []store{{342, 77}}},
		{"at the end of class 3", counts{4, 16, 64, 256}, 342, answer{344, counts{4, 16, 64, 512}, api.OK}, []store{{343, 342}, {344, 77}}},
		{"of the first cell of the last slab", counts{4, 16, 64, 512}, 344, answer{345, counts{4, 16, 64, 512}, api.OK}, []store{{345, 77}}},
	} {
		m := filled(t, p.Cells, junk)
		want, filling := m.Cells(), m.Stores()
		var got answer
		r := step.New(m)
		for i, s := range x.list {
			over := r.Step(func(r *step.Run) { got.tail, got.used, got.err = post.Put(r, p, x.used, x.tail, 77) })
			if over != (i == len(x.list)-1) || r.Count() != i+1 {
				t.Errorf("%s: Step %d answers %v, behind %d accesses", x.name, i+1, over, r.Count())
			}
			want[s.a] = s.v
			wantCells(t, x.name, m, want)
			for _, o := range x.list { // others store where it has stored, and where it will store
				want[o.a] = uint32(500 + i)
				m.Store(o.a, want[o.a])
			}
		}
		wantCells(t, x.name+", in the end", m, want)
		wantAnswer(t, x.name, got, x.want)
		if m.Loads() != 0 || m.Stores() != filling+len(x.list)+len(x.list)*len(x.list) {
			t.Errorf("%s: %d loads, %d stores", x.name, m.Loads(), m.Stores()-filling)
		}
	}
}

// P9.1: several Puts in one program, Step by Step: their stores one behind the other, none twice.
func TestPutsInOneProgram(t *testing.T) {
	p := laid(t, example())
	m := filled(t, p.Cells, junk)
	want := m.Cells()
	var x chain
	var used counts
	var list []store
	for w := range uint32(20) {
		l, _ := x.add(p, &used, w)
		list = append(list, l...)
	}
	var got answer
	program := func(r *step.Run) {
		got = answer{}
		for w := range uint32(20) {
			got.tail, got.used, got.err = post.Put(r, p, got.used, got.tail, w)
		}
	}
	r := step.New(m)
	for i, s := range list {
		if over := r.Step(program); over != (i == len(list)-1) {
			t.Fatalf("Step %d answers %v", i+1, over)
		}
		want[s.a] = s.v
		wantCells(t, "behind a Step", m, want)
	}
	wantAnswer(t, "the last Put", got, answer{x.tail(), used, api.OK})
}

// P9.1: a word may be any number, and what is used of the pools of which nothing is taken is told as it was.
func TestAnyWordAnyUsed(t *testing.T) {
	p := laid(t, example())
	for _, w := range []uint32{0, 1, 65535, 65536, math.MaxInt32, 1 << 31, math.MaxUint32} {
		m := filled(t, p.Cells, junk)
		wantAnswer(t, "Put", put(t, m, p, counts{4, 0, -7, 9999, 2, math.MinInt}, 6, w), answer{8, counts{4, 16, -7, 9999, 2, math.MinInt}, api.OK})
		if v, _ := m.Load(8); v != w {
			t.Errorf("the word %d was stored as %d", w, v)
		}
		full := counts{-1, math.MaxInt, 3, 4, 5, 6}
		wantAnswer(t, "Put that takes nothing", put(t, m, p, full, 8, w), answer{9, full, api.OK})
	}
}

// noTails are all that is no cell of a slab, or a link, the ends of the type among them; 0 isn't one of these.
func noTails(c api.Conf, p api.Plan) []int {
	l := []int{math.MinInt, math.MinInt + 1, math.MinInt32, math.MaxInt32, math.MaxInt - 1, math.MaxInt}
	cells := spots(c)
	for a := -300; a < p.Cells+300; a++ {
		if cells[a].at == 0 && a != 0 {
			l = append(l, a)
		}
	}
	return l
}

// P9.1 and P9.4: what is no tail is refused, ahead of all else, and nothing is stored; it needs nothing, and nothing is read from it.
func TestNoTail(t *testing.T) {
	for _, c := range confs() {
		p := laid(t, c)
		m := filled(t, p.Cells, func(a int) uint32 { return uint32(max(3, a-1)) })
		want, stores := m.Cells(), m.Stores()
		for _, tail := range noTails(c, p) {
			for _, used := range []counts{{}, p.Size, {-1, -1, -1, -1, -1, -1}} {
				wantAnswer(t, "Put from what is no tail", put(t, m, p, used, tail, 7), answer{err: api.ErrArg})
			}
			for _, n := range []int{1, 4, 1000} {
				if more := post.Need(p, tail, n); more != (counts{}) {
					t.Fatalf("Need from %d of %d: %v", tail, n, more)
				}
			}
			wantWalk(t, "Walk of what is no tail", walk(t, m, p, tail), nil)
		}
		wantWalk(t, "Walk of the tail 0", walk(t, m, p, 0), nil)
		wantCells(t, "behind all these", m, want)
		if m.Stores() != stores {
			t.Errorf("%d stores", m.Stores()-stores)
		}
	}
}

// P9.1: where a slab can't be taken, Put answers what Take does, and nothing is stored.
func TestNoRoom(t *testing.T) {
	p := laid(t, example())
	for k, tail := range []int{0, 6, 22, 86, 342} {
		class, slab := min(k, 3), sizeAt(k)
		for _, x := range []struct {
			used int
			err  api.Errno
		}{
			{p.Size[class], api.ErrFull},
			{p.Size[class] - slab + 1, api.ErrFull},
			{p.Size[class] + 1, api.ErrArg},
			{-1, api.ErrArg},
			{math.MinInt, api.ErrArg},
			{math.MaxInt, api.ErrArg},
			{p.Size[class] - slab, api.OK},
		} {
			m := filled(t, p.Cells, junk)
			stores, want := m.Stores(), m.Cells()
			used := counts{}
			used[class] = x.used
			got := put(t, m, p, used, tail, 7)
			if got.err != x.err {
				t.Fatalf("Put from %d, %d used: %v, want %v", tail, x.used, got.err, x.err)
			}
			if x.err == api.OK {
				continue
			}
			wantAnswer(t, "Put without room", got, answer{err: x.err})
			wantCells(t, "behind a Put without room", m, want)
			if m.Stores() != stores {
				t.Errorf("Put from %d without room stored", tail)
			}
		}
	}
	none := laid(t, api.Conf{Docs: 1, Terms: 64})
	wantAnswer(t, "Put without slabs", put(t, filled(t, none.Cells, junk), none, counts{}, 0, 7), answer{err: api.ErrFull})
}

// P9.4: how many cells so many words take.
func TestNeed(t *testing.T) {
	p := laid(t, example())
	for _, x := range []struct {
		tail, n int
		want    counts
	}{
		{0, math.MinInt, counts{}}, {0, -1, counts{}}, {0, 0, counts{}},
		{0, 1, counts{4}}, {0, 3, counts{4}},
		{0, 4, counts{4, 16}}, {0, 18, counts{4, 16}},
		{0, 19, counts{4, 16, 64}}, {0, 81, counts{4, 16, 64}},
		{0, 82, counts{4, 16, 64, 256}}, {0, 336, counts{4, 16, 64, 256}},
		{0, 337, counts{4, 16, 64, 512}}, {0, 591, counts{4, 16, 64, 512}},
		{0, 592, counts{4, 16, 64, 768}}, // if there were room
		{0, 999999, counts{4, 16, 64, 3922 * 256}},
		{0, 1000000, counts{4, 16, 64, 3922 * 256}},
		{0, 1000192, counts{4, 16, 64, 3922 * 256}}, // as 1000000; so many would take one slab more
		{0, math.MaxInt, counts{4, 16, 64, 3922 * 256}},
		{4, math.MinInt, counts{}}, {4, -5, counts{}}, {4, 0, counts{}}, {4, 2, counts{}}, {4, 3, counts{0, 16}},
		{5, 1, counts{}}, {5, 2, counts{0, 16}}, {6, 0, counts{}}, {6, 1, counts{0, 16}},
		{6, 15, counts{0, 16}}, {6, 16, counts{0, 16, 64}},
		{8, math.MinInt, counts{}}, {8, math.MinInt + 13, counts{}}, {8, 14, counts{}}, {8, 15, counts{0, 0, 64}}, {22, 1, counts{0, 0, 64}}, {22, 63, counts{0, 0, 64}}, {22, 64, counts{0, 0, 64, 256}},
		{24, 62, counts{}}, {24, 63, counts{0, 0, 0, 256}}, {86, 255, counts{0, 0, 0, 256}}, {86, 256, counts{0, 0, 0, 512}},
		{88, math.MinInt, counts{}}, {88, math.MinInt + 253, counts{}}, {88, 254, counts{}}, {88, 255, counts{0, 0, 0, 256}}, {342, 255, counts{0, 0, 0, 256}}, {342, 256, counts{0, 0, 0, 512}},
		{344, 254, counts{}}, {344, 255, counts{0, 0, 0, 256}}, {598, 1, counts{0, 0, 0, 256}},
		{598, 999855, counts{0, 0, 0, 3921 * 256}}, {598, 999856, counts{0, 0, 0, 3922 * 256}},
		{598, 1000000, counts{0, 0, 0, 3922 * 256}}, {598, 1000111, counts{0, 0, 0, 3922 * 256}}, {598, math.MaxInt, counts{0, 0, 0, 3922 * 256}},
		{88, 1000000, counts{0, 0, 0, 3921 * 256}}, {88, math.MaxInt, counts{0, 0, 0, 3921 * 256}},
		{198, 999999, counts{0, 0, 0, 3921 * 256}}, {198, 1000000, counts{0, 0, 0, 3922 * 256}}, // of 144 words more in its slab, the last one takes a slab
		{197, 1000000, counts{0, 0, 0, 3921 * 256}}, {197, 1000001, counts{0, 0, 0, 3921 * 256}}, {197, math.MaxInt, counts{0, 0, 0, 3921 * 256}}, // one more would take one
	} {
		if got := post.Need(p, x.tail, x.n); got != x.want {
			t.Errorf("Need from %d of %d: %v, want %v", x.tail, x.n, got, x.want)
		}
	}
}

// P9.1: a walk reads what is there, from newest and from older words, and ends at a link that leads nowhere.
func TestWalkLinks(t *testing.T) {
	p := laid(t, example())
	for _, x := range []struct {
		name  string
		cells []store
		tail  int
		want  []uint32
	}{
		{"no link", []store{{3, 0}, {4, 40}, {5, 50}, {6, 60}}, 5, []uint32{50, 40}},
		{"one word", []store{{3, 0}, {4, 40}}, 4, []uint32{40}},
		{"a link to a link", []store{{3, 7}, {4, 40}, {7, 6}, {6, 60}}, 4, []uint32{40}},
		{"a link to the book", []store{{3, 599}, {4, 40}}, 4, []uint32{40}},
		{"a link behind the memory", []store{{3, math.MaxUint32}, {4, 40}}, 4, []uint32{40}},
		{"a link to the cell behind", []store{{3, 609}, {4, 40}}, 4, []uint32{40}},
		{"a link to the cell 2", []store{{3, 2}, {4, 40}}, 4, []uint32{40}},
		{"a link into the middle of a slab", []store{{3, 9}, {4, 40}, {7, 0}, {8, 80}, {9, 90}, {10, 100}}, 4, []uint32{40, 90, 80}},
		{"a link to the first word of a slab", []store{{7, 4}, {8, 80}, {9, 90}, {3, 0}, {4, 40}}, 9, []uint32{90, 80, 40}},
		{"a link to the last slab", []store{{3, 345}, {4, 40}, {343, 0}, {344, 1}, {345, 2}}, 4, []uint32{40, 2, 1}},
	} {
		m := filled(t, p.Cells, zero)
		for _, s := range x.cells {
			m.Store(s.a, s.v)
		}
		stores := m.Stores()
		wantWalk(t, x.name, walk(t, m, p, x.tail), x.want)
		if m.Stores() != stores {
			t.Errorf("%s: a walk stored", x.name)
		}
	}
}

// P9.1: links that lead in a circle: as many words as the plan has cells, no more.
func TestWalkCircle(t *testing.T) {
	p := laid(t, example())
	for _, x := range []struct {
		name  string
		cells []store
		tail  int
		round []uint32
	}{
		{"a slab that leads to its own end", []store{{3, 6}, {4, 40}, {5, 50}, {6, 60}}, 6, []uint32{60, 50, 40}},
		{"a slab that leads to its own first word", []store{{3, 4}, {4, 40}}, 4, []uint32{40}},
		{"two slabs that lead to one another", []store{{3, 8}, {4, 40}, {5, 50}, {7, 5}, {8, 80}}, 5, []uint32{50, 40, 80}},
	} {
		m := filled(t, p.Cells, zero)
		for _, s := range x.cells {
			m.Store(s.a, s.v)
		}
		want := slices.Repeat(x.round, p.Cells)[:p.Cells]
		wantWalk(t, x.name, walk(t, m, p, x.tail), want)
	}
}

// P9.1: a memory that has fewer cells than the plan ends the run, and the parts too.
func TestMissingCells(t *testing.T) {
	p := laid(t, example())
	m := filled(t, 8, zero)
	for name, program := range map[string]func(r *step.Run){
		"Walk": func(r *step.Run) { post.Walk(r, p, 598) },
		"Put":  func(r *step.Run) { post.Put(r, p, counts{}, 6, 9) },
	} {
		r := step.New(m)
		for i := 0; !r.Step(program); i++ {
			if i > 10 {
				t.Fatalf("%s has no end", name)
			}
		}
		if r.Err() != api.ErrBounds {
			t.Errorf("%s: %v", name, r.Err())
		}
	}
}

// P9.1: runs that are nil, or outside of a Step: the parts end, and nothing is stored.
func TestNoRun(t *testing.T) {
	p := laid(t, example())
	m := filled(t, p.Cells, junk)
	want := m.Cells()
	for _, r := range []*step.Run{nil, step.New(nil), step.New(m)} {
		post.Put(r, p, counts{}, 0, 7)
		post.Put(r, p, counts{}, 6, 7)
		post.Walk(r, p, 598)
		post.Walk(r, p, 0)
	}
	wantCells(t, "behind parts without a run", m, want)
	post.Put(nil, api.Plan{}, counts{}, 0, 7)
	post.Walk(nil, api.Plan{}, 7)
	post.Need(api.Plan{}, 7, math.MaxInt)
}

// P9.1: what a walk answers is its own: no two of them share anything.
func TestWalksShareNothing(t *testing.T) {
	p := laid(t, example())
	m := filled(t, p.Cells, zero)
	for a, v := range map[int]uint32{4: 40, 5: 50, 6: 60} {
		m.Store(a, v)
	}
	first := walk(t, m, p, 6)
	second := walk(t, m, p, 6)
	clear(first[:cap(first)])
	wantWalk(t, "the second walk", second, []uint32{60, 50, 40})
	wantWalk(t, "a third walk", walk(t, m, p, 6), []uint32{60, 50, 40})
}
