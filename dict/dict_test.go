package dict_test

import (
	"hash/fnv"
	"math"
	"strconv"
	"strings"
	"testing"

	"plover/api"
	"plover/dict"
	"plover/mem"
	"plover/pool"
	"plover/step"
)

type counts = [api.Pools]int

// example has a book of 200 cells from 3 on, and a room of 300 from 203 on.
func example() api.Conf {
	return api.Conf{Docs: 1, Terms: 64, Book: 200, Room: 300}
}

func laid(t *testing.T, c api.Conf) api.Plan {
	t.Helper()
	p, err := pool.Lay(c)
	if err != api.OK {
		t.Fatalf("Lay(%+v) = %v", c, err)
	}
	return p
}

// filled is a memory in which each cell holds what value tells of it.
func filled(t *testing.T, n int, value func(a int) uint32) *mem.Mem {
	t.Helper()
	m, err := mem.New(n)
	if err != api.OK {
		t.Fatalf("New(%d) = %v", n, err)
	}
	for a := range n {
		m.Store(a, value(a))
	}
	return m
}

// junk is unlike every number that these tests store, so that each store shows.
func junk(a int) uint32 {
	return 0xDEAD0000 + uint32(a)
}

func zero(int) uint32 {
	return 0
}

// store is one that is wanted of a Put, or one that makes a memory.
type store struct {
	a int
	v uint32
}

// turn makes stores.
func turn(m *mem.Mem, list ...store) {
	for _, s := range list {
		m.Store(s.a, s.v)
	}
}

// cellsOf is a key as the chapter on cells tells of it, by the values of its bytes' places.
func cellsOf(key string) []uint32 {
	var l []uint32
	for ; key != ""; key = key[min(4, len(key)):] {
		var v uint32
		for i, weight := range []uint32{1, 1 << 8, 1 << 16, 1 << 24} {
			if i < len(key) {
				v += weight * uint32(key[i])
			}
		}
		l = append(l, v)
	}
	return l
}

// recordOf are the cells of a record, but for its tail.
func recordOf(a int, key string) []store {
	l := []store{{a + 1, uint32(len(key))}}
	for i, v := range cellsOf(key) {
		l = append(l, store{a + 2 + i, v})
	}
	return l
}

// homeOf is the slot of n from which on a key is looked for.
func homeOf(key string, n int) int {
	h := fnv.New32a()
	h.Write([]byte(key))
	return int(uint64(h.Sum32()) % uint64(n))
}

// homed are so many keys of one length whose slot of n is the one told.
func homed(n, home, many int) []string {
	var l []string
	for i := 0; len(l) < many; i++ {
		key := "\x01term" + strconv.Itoa(100000+i)
		if homeOf(key, n) == home {
			l = append(l, key)
		}
	}
	return l
}

// spot is what a Find tells.
type spot struct{ record, slot int }

// answer is what a Put tells.
type answer struct {
	record int
	used   counts
	err    api.Errno
}

// run goes on with a program to its end.
func run(t *testing.T, m *mem.Mem, program func(r *step.Run)) api.Errno {
	t.Helper()
	r := step.New(m)
	for i := 0; !r.Step(program); i++ {
		if i > 1000000 {
			t.Fatal("a program without an end")
		}
	}
	return r.Err()
}

// done runs a program that must come to no missing cell.
func done(t *testing.T, m *mem.Mem, program func(r *step.Run)) {
	t.Helper()
	if err := run(t, m, program); err != api.OK {
		t.Fatalf("the run: %v", err)
	}
}

func find(t *testing.T, m *mem.Mem, s, n int, key string) spot {
	t.Helper()
	var got spot
	done(t, m, func(r *step.Run) { got.record, got.slot = dict.Find(r, s, n, key) })
	return got
}

func put(t *testing.T, m *mem.Mem, p api.Plan, used counts, s, slot int, key string) answer {
	t.Helper()
	var got answer
	done(t, m, func(r *step.Run) { got.record, got.used, got.err = dict.Put(r, p, used, s, slot, key) })
	return got
}

func read(t *testing.T, m *mem.Mem, record int) string {
	t.Helper()
	var got string
	done(t, m, func(r *step.Run) { got = dict.Read(r, record) })
	return got
}

func tail(t *testing.T, m *mem.Mem, record int) int {
	t.Helper()
	var got int
	done(t, m, func(r *step.Run) { got = dict.Tail(r, record) })
	return got
}

// wantSpot holds a Find's answer against the one wanted.
func wantSpot(t *testing.T, what string, got, want spot) {
	t.Helper()
	if got != want {
		t.Fatalf("%s: the record %d, the slot %d; want %d, %d", what, got.record, got.slot, want.record, want.slot)
	}
}

// wantAnswer holds a Put's answer against the one wanted.
func wantAnswer(t *testing.T, what string, got, want answer) {
	t.Helper()
	if got != want {
		t.Fatalf("%s: %v, want %v", what, got, want)
	}
}

// wantKey holds what was read against what is wanted.
func wantKey(t *testing.T, what, got, want string) {
	t.Helper()
	if got != want {
		t.Fatalf("%s: the key %q, want %q", what, got, want)
	}
}

// wantCells holds the whole memory against what is wanted.
func wantCells(t *testing.T, what string, m *mem.Mem, want []uint32) {
	t.Helper()
	for a, v := range m.Cells() {
		if v != want[a] {
			t.Fatalf("%s: the cell %d holds %d, want %d", what, a, v, want[a])
		}
	}
}

// P10.1: the chapter's example.
func TestExample(t *testing.T) {
	p := laid(t, example())
	m := filled(t, p.Cells, zero)
	s, home := p.Base[api.Room], homeOf("\x00fox", 4)
	wantSpot(t, "Find in four empty slots", find(t, m, s, 4, "\x00fox"), spot{0, home})
	wantAnswer(t, "Put there", put(t, m, p, counts{}, s, home, "\x00fox"), answer{3, counts{api.Book: 3}, api.OK})
	wantSpot(t, "Find behind it", find(t, m, s, 4, "\x00fox"), spot{3, home})
	want := make([]uint32, p.Cells)
	want[4], want[5], want[s+home] = 4, 0x786F6600, 3
	wantCells(t, "behind it", m, want)
	wantKey(t, "Read", read(t, m, 3), "\x00fox")
	if n := tail(t, m, 3); n != 0 {
		t.Errorf("the tail: %d", n)
	}
}

// keys are of all lengths up to beyond the longest one of a term, of bytes of all kinds; the empty one too.
func keys() []string {
	l := []string{"", "\x00", "\x00a", "\x00\x00", "\x03abcdefghijklmnop", "\xff\xfe\xfd\xfc\xfb", strings.Repeat("q", 300)}
	for n := range 22 {
		l = append(l, "zyxwvutsrqponmlkjihgfedcba"[:n])
	}
	return l
}

// P10.1: where all slots are empty it is the key's own.
func TestFindEmpty(t *testing.T) {
	m := filled(t, 2000, func(a int) uint32 {
		if a >= 100 && a < 1700 {
			return 0
		}
		return junk(a)
	})
	want, loads, stores := m.Cells(), m.Loads(), m.Stores()
	for _, n := range []int{1, 2, 4, 8, 128, 512, 1024, 3, 5, 100, 1600} {
		for _, key := range keys() {
			wantSpot(t, "Find", find(t, m, 100, n, key), spot{0, homeOf(key, n)})
			if m.Loads() == loads {
				t.Fatal("a Find that reads nothing")
			}
			loads = m.Loads()
		}
	}
	wantCells(t, "behind all these", m, want)
	if m.Stores() != stores {
		t.Errorf("%d stores", m.Stores()-stores)
	}
}

// P10.1: without slots there is neither, whatever the memory holds.
func TestFindNoSlots(t *testing.T) {
	for _, value := range []func(int) uint32{zero, junk} {
		m := filled(t, 50, value)
		for _, n := range []int{0, -1, -4, math.MinInt} {
			for _, s := range []int{-1, 0, 10, 49, 50, math.MaxInt, math.MinInt} {
				for _, key := range keys() {
					wantSpot(t, "Find", find(t, m, s, n, key), spot{0, -1})
				}
			}
		}
	}
}

// P10.1: with one slot it is that one: empty, the key's, or another key's.
func TestFindOneSlot(t *testing.T) {
	m := filled(t, 60, zero)
	turn(m, recordOf(20, "\x00fox")...)
	turn(m, recordOf(30, "\x00hare")...)
	for _, x := range []struct {
		slot uint32
		want spot
	}{{0, spot{0, 0}}, {20, spot{20, 0}}, {30, spot{0, -1}}} {
		m.Store(50, x.slot)
		wantSpot(t, "Find", find(t, m, 50, 1, "\x00fox"), x.want)
	}
}

// P10.1: in a dictionary that is full of others there is neither; each slot is gone over once, and a search has an end.
func TestFindFull(t *testing.T) {
	for _, n := range []int{1, 2, 4, 16, 64} {
		m := filled(t, 2000, junk)
		s := 1900
		for i, key := range homed(n, n-1, n) {
			turn(m, recordOf(10+8*i, key)...)
			m.Store(s+i, uint32(10+8*i))
		}
		want := m.Cells()
		for _, key := range keys() {
			wantSpot(t, "Find in a full one", find(t, m, s, n, key), spot{0, -1})
		}
		for i, key := range homed(n, n-1, n) {
			wantSpot(t, "Find of one that is there", find(t, m, s, n, key), spot{10 + 8*i, i})
		}
		wantCells(t, "behind all these", m, want)
	}
}

// P10.1: the order of the slots: from the key's own on, upwards, behind the last one the first; the first slot that is empty or the key's is the answer.
func TestOrder(t *testing.T) {
	const n, s, own, twin, others = 8, 900, 20, 40, 100
	for home := range n {
		key := homed(n, home, 1)[0]
		m := filled(t, 1000, zero)
		turn(m, recordOf(own, key)...)
		turn(m, recordOf(twin, key)...)
		for slot := range n {
			turn(m, recordOf(others+10*slot, "\x02other"+strconv.Itoa(slot))...)
		}
		for i := range n {
			for j := range n {
				for slot := range n {
					m.Store(s+slot, uint32(others+10*slot))
				}
				first, second := (home+min(i, j))%n, (home+max(i, j))%n
				m.Store(s+second, own)
				wantSpot(t, "Find behind others", find(t, m, s, n, key), spot{own, second})
				m.Store(s+first, twin)
				wantSpot(t, "Find of one that is there twice", find(t, m, s, n, key), spot{twin, first})
				m.Store(s+first, 0)
				wantSpot(t, "Find ahead of an empty slot", find(t, m, s, n, key), spot{0, first})
			}
		}
	}
}

// P10.1: a slot that was gone over isn't asked a second time: what is put into it then is not found, and the search has an end.
func TestOnce(t *testing.T) {
	const n, s = 4, 90
	for home := range n {
		l := homed(n, home, n+1)
		m := filled(t, 100, zero)
		for i, key := range l {
			turn(m, recordOf(10+8*i, key)...)
		}
		for slot := range n {
			m.Store(s+slot, uint32(10+8*slot))
		}
		got := spot{-7, -7}
		r := step.New(m)
		for i := 0; !r.Step(func(r *step.Run) { got.record, got.slot = dict.Find(r, s, n, l[n]) }); i++ {
			if i == 0 { // its own slot was read
				m.Store(s+home, 10+8*n)
			}
		}
		wantSpot(t, "Find", got, spot{0, -1})
	}
}

// unlike are records that are not the key's, one cell turned or a byte more or less.
func unlike(key string) [][]store {
	l := [][]store{}
	cells := recordOf(10, key)
	for i := range cells {
		for _, bit := range []uint32{1, 1 << 7, 1 << 8, 1 << 15, 1 << 16, 1 << 23, 1 << 24, 1 << 31} {
			other := recordOf(10, key)
			other[i].v ^= bit
			l = append(l, other)
		}
	}
	for i := range 6 {
		l = append(l, recordOf(10, key+strings.Repeat("\x00", i+1)), recordOf(10, key+strings.Repeat("a", i+1)))
		if len(key) > i {
			l = append(l, recordOf(10, key[:len(key)-1-i]), recordOf(10, key[1+i:]))
		}
	}
	return l
}

// P10.1: records of as many bytes that differ in any one cell, and records of more and of fewer bytes, are passed: the slot behind is asked.
func TestUnlike(t *testing.T) {
	const n, s, own = 4, 980, 500
	for _, key := range keys() {
		home := homeOf(key, n)
		next := (home + 1) % n
		for _, other := range unlike(key) {
			m := filled(t, 1000, zero)
			turn(m, other...)
			turn(m, recordOf(own, key)...)
			m.Store(s+home, 10)
			wantSpot(t, "Find ahead of an empty slot", find(t, m, s, n, key), spot{0, next})
			m.Store(s+next, own)
			wantSpot(t, "Find ahead of its own", find(t, m, s, n, key), spot{own, next})
			for slot := range n {
				m.Store(s+slot, 10)
			}
			wantSpot(t, "Find among others alone", find(t, m, s, n, key), spot{0, -1})
		}
	}
}

// P10.1: what a tail holds, and what lies ahead of and behind a record, plays no part in what is found and read.
func TestNeighbours(t *testing.T) {
	const n, s, own = 4, 980, 500
	for _, key := range keys() {
		m := filled(t, 1000, junk)
		home := homeOf(key, n)
		turn(m, recordOf(own, key)...)
		m.Store(s+home, own)
		wantSpot(t, "Find", find(t, m, s, n, key), spot{own, home})
		if len(key) > 17 {
			key = ""
		}
		wantKey(t, "Read", read(t, m, own), key)
	}
}

// P10.1: slots in great numbers, of which only those are read that are asked: the sums of such numbers are right.
func TestManySlots(t *testing.T) {
	key := "\x00fox"
	for _, n := range []int{1 << 20, 1 << 31, 1<<32 - 1, 1 << 32, 1 << 40, math.MaxInt - 1, math.MaxInt} {
		home := homeOf(key, n)
		m := filled(t, 100, junk)
		s := 50 - home
		turn(m, recordOf(10, "\x00fix")...)
		turn(m, recordOf(20, key)...)
		turn(m, store{50, 10}, store{51, 0})
		wantSpot(t, "Find ahead of an empty slot", find(t, m, s, n, key), spot{0, home + 1})
		m.Store(51, 20)
		wantSpot(t, "Find ahead of its own", find(t, m, s, n, key), spot{20, home + 1})
	}
}

// P10.1: Put stores in order, one store a Step, the slot last, reads nothing, and minds nothing that others store in between; the tail isn't turned.
func TestStoresInOrder(t *testing.T) {
	p := laid(t, example())
	for _, key := range keys() {
		for _, x := range []struct{ used, s, slot int }{{0, 203, 0}, {0, 210, 7}, {50, 210, 1}, {100, 0, 0}, {60, 1, 1}} {
			m := filled(t, p.Cells, junk)
			want, filling := m.Cells(), m.Stores()
			record := 3 + x.used
			list := append(recordOf(record, key), store{x.s + x.slot, uint32(record)})
			used := counts{1, 2, 3, 4, x.used, 5}
			var got answer
			r := step.New(m)
			for i, s := range list {
				over := r.Step(func(r *step.Run) { got.record, got.used, got.err = dict.Put(r, p, used, x.s, x.slot, key) })
				if over != (i == len(list)-1) || r.Count() != i+1 {
					t.Fatalf("%q: Step %d answers %v, behind %d accesses", key, i+1, over, r.Count())
				}
				want[s.a] = s.v
				wantCells(t, "behind a Step", m, want)
				for _, o := range []int{0, i, len(list) - 1} { // others store where it has stored, and where it will store
					want[list[o].a] = uint32(50000 + i)
					m.Store(list[o].a, want[list[o].a])
				}
			}
			wantCells(t, "in the end", m, want)
			used[api.Book] += len(list) // the tail's cell in the place of the slot's
			wantAnswer(t, "Put", got, answer{record, used, api.OK})
			if m.Loads() != 0 || m.Stores() != filling+4*len(list) {
				t.Errorf("%q: %d loads, %d stores", key, m.Loads(), m.Stores()-filling)
			}
		}
	}
}

// P10.1: where the book hasn't the room, Put answers what Take does, and nothing is stored; a record that takes all that is left is put.
func TestNoRoom(t *testing.T) {
	p := laid(t, example())
	for _, key := range keys() {
		takes := 2 + len(cellsOf(key))
		for _, x := range []struct {
			used int
			err  api.Errno
		}{
			{200 - takes, api.OK},
			{201 - takes, api.ErrFull},
			{199, api.ErrFull},
			{200, api.ErrFull},
			{201, api.ErrArg},
			{-1, api.ErrArg},
			{math.MinInt, api.ErrArg},
			{math.MaxInt, api.ErrArg},
		} {
			m := filled(t, p.Cells, junk)
			stores, want := m.Stores(), m.Cells()
			got := put(t, m, p, counts{7, api.Book: x.used, api.Room: 9}, 203, 5, key)
			if x.err == api.OK {
				wantAnswer(t, "Put of the last record", got, answer{3 + x.used, counts{7, api.Book: 200, api.Room: 9}, api.OK})
				wantKey(t, "Read of it", read(t, m, got.record), short(key))
				continue
			}
			wantAnswer(t, "Put without room", got, answer{err: x.err})
			wantCells(t, "behind a Put without room", m, want)
			if m.Stores() != stores {
				t.Errorf("Put of %q with %d used stored", key, x.used)
			}
		}
	}
	none := laid(t, api.Conf{Docs: 1, Terms: 64})
	wantAnswer(t, "Put without a book", put(t, filled(t, 300, junk), none, counts{}, 5, 0, ""), answer{err: api.ErrFull})
}

// short is a key as Read tells it.
func short(key string) string {
	if len(key) > 17 {
		return ""
	}
	return key
}

// P10.1: what is used of other pools is told as it was, and plays no part.
func TestOtherPools(t *testing.T) {
	p := laid(t, example())
	m := filled(t, p.Cells, junk)
	used := counts{-5, math.MaxInt, math.MinInt, 0, 20, 999}
	wantAnswer(t, "Put", put(t, m, p, used, 203, 5, "\x00hare"), answer{23, counts{-5, math.MaxInt, math.MinInt, 0, 24, 999}, api.OK})
}

// P10.1: Read of records of all lengths: up to 17 bytes the key, of more nothing, and no byte of the last cell beyond the key's.
func TestRead(t *testing.T) {
	text := "\x02the quick brown hares\x00\xff"
	m := filled(t, 60, junk)
	turn(m, recordOf(10, text)...)
	for n := range len(text) + 1 {
		m.Store(11, uint32(n))
		want := text[:n]
		if n > 17 {
			want = ""
		}
		wantKey(t, "Read of "+strconv.Itoa(n)+" bytes", read(t, m, 10), want)
	}
	for _, n := range []uint32{18, 1000, 1 << 16, 1<<16 + 3, 1<<31 - 1, 1 << 31, 1<<31 + 3, math.MaxUint32 - 2, math.MaxUint32 - 1, math.MaxUint32} {
		m.Store(11, n)
		wantKey(t, "Read of too many bytes", read(t, m, 10), "")
	}
}

// P10.1: the tail of a new record, and behind SetTail; SetTail makes one store, and turns nothing else.
func TestTail(t *testing.T) {
	p := laid(t, example())
	m := filled(t, p.Cells, func(a int) uint32 {
		if a < 203 {
			return 0
		}
		return junk(a)
	})
	record := put(t, m, p, counts{api.Book: 10}, 203, 5, "\x00hare").record
	if n := tail(t, m, record); n != 0 || record != 13 {
		t.Errorf("the tail of the new record %d: %d", record, n)
	}
	want := m.Cells()
	for _, v := range []int{4, 5, 0, 1, 65535, 65536, math.MaxInt32, 1 << 31, math.MaxUint32, 7} {
		stores := m.Stores()
		done(t, m, func(r *step.Run) { dict.SetTail(r, record, v) })
		want[record] = uint32(v)
		wantCells(t, "behind SetTail", m, want)
		if m.Stores() != stores+1 {
			t.Errorf("SetTail of %d: %d stores", v, m.Stores()-stores)
		}
		if n := tail(t, m, record); n != v {
			t.Errorf("Tail behind SetTail of %d: %d", v, n)
		}
		wantKey(t, "Read behind SetTail", read(t, m, record), "\x00hare")
		wantSpot(t, "Find behind SetTail", find(t, m, 208, 1, "\x00hare"), spot{record, 0})
	}
	put(t, m, p, counts{api.Book: 10}, 203, 6, "\x00fox")
	if n := tail(t, m, record); n != 7 {
		t.Errorf("a Put onto an old record turned its tail: %d", n)
	}
}

// P10.1: several parts in one program, Step by Step: each goes on with what those ahead of it read and stored.
func TestPartsInOneProgram(t *testing.T) {
	p := laid(t, example())
	m := filled(t, p.Cells, zero)
	var spots [4]spot
	var last answer
	var read [2]string
	var tail int
	done(t, m, func(r *step.Run) {
		var used counts
		for i, key := range []string{"\x00fox", "\x01fox", "\x00fox", "\x01fox"} {
			spots[i].record, spots[i].slot = dict.Find(r, 300, 2, key)
			if spots[i].record == 0 && spots[i].slot >= 0 {
				last.record, last.used, last.err = dict.Put(r, p, used, 300, spots[i].slot, key)
				used = last.used
			}
		}
		dict.SetTail(r, spots[3].record, dict.Tail(r, spots[2].record)+5)
		tail = dict.Tail(r, spots[3].record)
		read = [2]string{dict.Read(r, spots[2].record), dict.Read(r, spots[3].record)}
	})
	one := homeOf("\x00fox", 2)
	if spots != [4]spot{{0, one}, {0, 1 - one}, {3, one}, {6, 1 - one}} {
		t.Errorf("found: %v", spots)
	}
	wantAnswer(t, "the last Put", last, answer{6, counts{api.Book: 6}, api.OK})
	if tail != 5 || read != [2]string{"\x00fox", "\x01fox"} {
		t.Errorf("the tail %d, the keys %q", tail, read)
	}
}

// P10.1: a cell that isn't there ends the run with its error, and what was stored ahead of it stays; the parts end.
func TestMissingCells(t *testing.T) {
	p := laid(t, example())
	key := "\x00quickfox"
	home := homeOf(key, 4)
	for name, x := range map[string]struct {
		cells   []store
		program func(r *step.Run)
		stored  []store
	}{
		"a slot":                  {nil, func(r *step.Run) { dict.Find(r, 40-home, 4, key) }, nil},
		"a slot ahead of all":     {nil, func(r *step.Run) { dict.Find(r, -1-home, 4, key) }, nil},
		"slots from the first on": {nil, func(r *step.Run) { dict.Find(r, math.MinInt, 4, key) }, nil},
		"slots at the last":       {nil, func(r *step.Run) { dict.Find(r, math.MaxInt, math.MaxInt, key) }, nil},
		"the second slot":         {append(recordOf(10, "\x00"), store{39, 10}), func(r *step.Run) { dict.Find(r, 39-home, 64, "") }, nil},
		"a record's length":       {[]store{{20 + home, 39}}, func(r *step.Run) { dict.Find(r, 20, 4, key) }, nil},
		"a record":                {[]store{{20 + home, math.MaxUint32}}, func(r *step.Run) { dict.Find(r, 20, 4, key) }, nil},
		"a record's first cell":   {[]store{{20 + home, 38}, {39, 9}}, func(r *step.Run) { dict.Find(r, 20, 4, key) }, nil},
		"a record's last cell":    {append(recordOf(36, key), store{20 + home, 36}), func(r *step.Run) { dict.Find(r, 20, 4, key) }, nil},
		"Read: the length":        {nil, func(r *step.Run) { dict.Read(r, 39) }, nil},
		"Read: ahead of all":      {nil, func(r *step.Run) { dict.Read(r, -2) }, nil},
		"Read: the last one":      {nil, func(r *step.Run) { dict.Read(r, math.MaxInt) }, nil},
		"Read: the key's cells":   {[]store{{37, 9}}, func(r *step.Run) { dict.Read(r, 36) }, nil},
		"Tail":                    {nil, func(r *step.Run) { dict.Tail(r, 40) }, nil},
		"Tail ahead of all":       {nil, func(r *step.Run) { dict.Tail(r, -1) }, nil},
		"SetTail":                 {nil, func(r *step.Run) { dict.SetTail(r, 40, 3) }, nil},
		"Put: the length":         {nil, func(r *step.Run) { dict.Put(r, p, counts{api.Book: 36}, 20, 0, key) }, nil},
		"Put: the key's cells":    {nil, func(r *step.Run) { dict.Put(r, p, counts{api.Book: 34}, 20, 0, key) }, recordOf(37, key)[:2]},
		"Put: the slot":           {nil, func(r *step.Run) { dict.Put(r, p, counts{}, 40, 0, key) }, recordOf(3, key)},
	} {
		m := filled(t, 40, junk)
		turn(m, x.cells...)
		want := m.Cells()
		for _, s := range x.stored {
			want[s.a] = s.v
		}
		if err := run(t, m, x.program); err != api.ErrBounds {
			t.Errorf("%s: %v", name, err)
		}
		wantCells(t, name, m, want)
	}
}

// P10.1: what isn't read needn't be there: slots behind the answer, cells of records of other lengths, cells behind one that differs, and of a key that is too long.
func TestMissingCellsUnread(t *testing.T) {
	key := "\x00quickfox"
	home := homeOf(key, 64)
	m := filled(t, 40, zero)
	turn(m, recordOf(10, key)...)
	wantSpot(t, "an empty slot ahead of the end", find(t, m, 39-home, 64, key), spot{0, home})
	m.Store(39, 10)
	wantSpot(t, "a record ahead of the end", find(t, m, 39-home, 64, key), spot{10, home})
	turn(m, store{20, 36}, store{37, 10})
	wantSpot(t, "a record of another length at the end", find(t, m, 20-home, 64, key), spot{0, home + 1})
	turn(m, store{37, 9}, store{38, 7})
	wantSpot(t, "a record that differs at the end", find(t, m, 20-home, 64, key), spot{0, home + 1})
	turn(m, store{39, 18})
	wantKey(t, "a key that is too long at the end", read(t, m, 38), "")
	turn(m, store{39, 0})
	wantKey(t, "an empty key at the end", read(t, m, 38), "")
	turn(m, store{36, 0x0D0C0B0A}, store{37, 4}, store{38, 0x64636261})
	wantKey(t, "a key of the last cells but one", read(t, m, 36), "abcd")
	turn(m, store{37, 8}, store{39, 0x68676665})
	wantKey(t, "a key of the last cells", read(t, m, 36), "abcdefgh")
}

// P10.1: runs that are nil, over, or outside of a Step: the parts end, and nothing is stored.
func TestNoRun(t *testing.T) {
	p := laid(t, example())
	m := filled(t, p.Cells, junk)
	want := m.Cells()
	for _, r := range []*step.Run{nil, step.New(nil), step.New(m)} {
		for _, key := range keys() {
			dict.Find(r, 203, math.MaxInt, key)
			dict.Put(r, p, counts{}, 203, 5, key)
		}
		dict.Read(r, 7)
		dict.Tail(r, 7)
		dict.SetTail(r, 7, 9)
	}
	wantCells(t, "behind parts without a run", m, want)
	dict.Put(nil, api.Plan{}, counts{}, 0, 0, "")
	dict.Put(nil, api.Plan{}, counts{}, math.MaxInt, math.MaxInt, "x")
}
