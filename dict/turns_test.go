package dict_test

import (
	"math"
	"slices"
	"testing"

	"plover/api"
	"plover/dict"
	"plover/mem"
	"plover/step"
)

// dice are numbers that only look random: the same ones in each run.
type dice uint64

func (d *dice) roll(n int) int {
	*d = *d*6364136223846793005 + 1442695040888963407
	return int(uint64(*d) >> 33 % uint64(n))
}

// word is a key of few bytes, so that many are alike.
func (d *dice) word() string {
	b := []byte{byte(d.roll(2))}
	for range d.roll(10) {
		b = append(b, "ab\x00\xff"[d.roll(4)])
	}
	return string(b)
}

// modelFind goes by the chapter's words over the cells of a memory; false: it comes to one that isn't there.
func modelFind(l []uint32, s, n int, key string) (spot, bool) {
	cells := cellsOf(key)
	for i := range n {
		slot := (homeOf(key, n) + i) % n
		if s+slot < 0 || s+slot >= len(l) {
			return spot{}, false
		}
		a := int(l[s+slot])
		if a == 0 {
			return spot{0, slot}, true
		}
		if a+1 >= len(l) {
			return spot{}, false
		}
		if int(l[a+1]) != len(key) {
			continue
		}
		rest := l[a+2:]
		same := 0
		for same < len(cells) && same < len(rest) && rest[same] == cells[same] {
			same++
		}
		if same == len(cells) {
			return spot{a, slot}, true
		}
		if same == len(rest) {
			return spot{}, false
		}
	}
	return spot{0, -1}, true
}

// modelRead is the key of a record, by the chapter's words; false: it comes to a cell that isn't there.
func modelRead(l []uint32, record int) (string, bool) {
	if record+1 < 0 || record+1 >= len(l) {
		return "", false
	}
	n := int(l[record+1])
	if n > 17 {
		return "", true
	}
	if record+2+(n+3)/4 > len(l) {
		return "", false
	}
	var b []byte
	for _, v := range l[record+2 : record+2+(n+3)/4] {
		b = append(b, byte(v), byte(v/256), byte(v/65536), byte(v/65536/256))
	}
	return string(b[:n]), true
}

// wild is a memory of slots and records in any disorder: many cells are 0, addresses, lengths, or cells of the key.
func wild(t *testing.T, d *dice, n int, key string) *mem.Mem {
	t.Helper()
	cells := append(cellsOf(key), 0)
	m := filled(t, n, func(a int) uint32 {
		switch d.roll(12) {
		case 0:
			return uint32(d.roll(math.MaxInt32)) << d.roll(2)
		case 1:
			return 0
		case 2, 3:
			return uint32(len(key))
		case 4:
			return cells[d.roll(len(cells))]
		case 5:
			return uint32(d.roll(25))
		}
		return uint32(d.roll(n + 1))
	})
	for range 6 {
		for _, s := range recordOf(d.roll(n), key) {
			if s.a < n && d.roll(9) > 0 {
				m.Store(s.a, s.v)
			}
		}
	}
	return m
}

// P10.1: in any memory Find and Read answer what the chapter says, and turn nothing; where a cell isn't there, the run tells.
func TestAnyMemory(t *testing.T) {
	hits, misses, fulls, bounds := 0, 0, 0, 0
	for seed := range 3000 {
		d := dice(seed)
		key := d.word()
		m := wild(t, &d, 20+d.roll(200), key)
		l, stores := m.Cells(), m.Stores()
		s, n := d.roll(len(l))-5, 1+d.roll(16)
		want, ok := modelFind(l, s, n, key)
		var got spot
		err := run(t, m, func(r *step.Run) { got.record, got.slot = dict.Find(r, s, n, key) })
		switch {
		case !ok:
			bounds++
			if err != api.ErrBounds {
				t.Fatalf("seed %d: a cell is missing: %v", seed, err)
			}
		case err != api.OK:
			t.Fatalf("seed %d: no cell is missing: %v", seed, err)
		default:
			wantSpot(t, "Find", got, want)
		}
		if ok && want.record > 0 {
			hits++
		} else if ok && want.slot >= 0 {
			misses++
		} else if ok {
			fulls++
		}
		checkRead(t, m, l, d.roll(len(l)+3)-2)
		wantCells(t, "behind a Find and a Read", m, l)
		if m.Stores() != stores {
			t.Fatal("a Find or a Read stored")
		}
	}
	if min(hits, misses, fulls, bounds) < 100 {
		t.Errorf("found %d, not found %d, neither %d, no cell %d", hits, misses, fulls, bounds)
	}
}

// checkRead holds a Read of any cell against the model.
func checkRead(t *testing.T, m *mem.Mem, l []uint32, record int) {
	t.Helper()
	want, ok := modelRead(l, record)
	var got string
	err := run(t, m, func(r *step.Run) { got = dict.Read(r, record) })
	if ok != (err == api.OK) {
		t.Fatalf("Read of %d: %v; all cells are there: %v", record, err, ok)
	}
	if ok {
		wantKey(t, "Read", got, want)
	}
}

// entry is a key that was put, and where.
type entry struct {
	key string
	spot
}

// model is a dictionary by the chapter's words: slots with records' addresses, and the keys in order of their records.
type model struct {
	n     int
	slots map[int]entry
	used  int // of the book
}

// look is where a key is, or would be.
func (x *model) look(key string) spot {
	for i := range x.n {
		slot := (homeOf(key, x.n) + i) % x.n
		e, ok := x.slots[slot]
		if !ok {
			return spot{0, slot}
		}
		if e.key == key {
			return e.spot
		}
	}
	return spot{0, -1}
}

// add puts a key where it was looked for: its record; false: the book has no room.
func (x *model) add(base, size, slot int, key string) (int, bool) {
	n := 2 + len(cellsOf(key))
	if x.used+n > size {
		return 0, false
	}
	record := base + x.used
	x.used += n
	x.slots[slot] = entry{key, spot{record, slot}}
	return record, true
}

// P10.1 and P10.2: rows of keys that are looked for, and put where Find said, up to where the slots or the book are full: each answer, what is used, each cell; in the end each key is found and reads as it was, and others aren't found.
func TestRows(t *testing.T) {
	ends := map[string]int{}
	for seed := range 120 {
		d := dice(seed)
		p := laid(t, api.Conf{Docs: 1, Terms: 64, Book: 20 + d.roll(300), Room: 200})
		n := 1 << d.roll(7)
		s := p.Base[api.Room] + d.roll(200-n)
		m := filled(t, p.Cells, func(a int) uint32 {
			if a >= s && a < s+n {
				return 0
			}
			return junk(a)
		})
		want := m.Cells()
		x := &model{n: n, slots: map[int]entry{}}
		var used counts
		for range 150 {
			key := d.word()
			where := x.look(key)
			wantSpot(t, "Find", find(t, m, s, n, key), where)
			if where.record > 0 {
				wantKey(t, "Read", read(t, m, where.record), key)
				continue
			}
			if where.slot < 0 {
				ends["full slots"]++
				continue
			}
			record, ok := x.add(p.Base[api.Book], p.Size[api.Book], where.slot, key)
			got := put(t, m, p, used, s, where.slot, key)
			if !ok {
				ends["full book"]++
				wantAnswer(t, "Put without room", got, answer{err: api.ErrFull})
				continue
			}
			used[api.Book] = x.used
			wantAnswer(t, "Put", got, answer{record, used, api.OK})
			want[s+where.slot] = uint32(record)
			for _, c := range recordOf(record, key) {
				want[c.a] = c.v
			}
		}
		wantCells(t, "behind the row", m, want)
		x.hold(t, m, s, &d)
	}
	if ends["full slots"] < 100 || ends["full book"] < 100 {
		t.Errorf("where rows came to: %v", ends)
	}
}

// hold holds all that is there against the model: each key is found, with its text; any others are where the model says.
func (x *model) hold(t *testing.T, m *mem.Mem, s int, d *dice) {
	t.Helper()
	for _, e := range x.slots {
		wantSpot(t, "Find, in the end", find(t, m, s, x.n, e.key), e.spot)
		wantKey(t, "Read, in the end", read(t, m, e.record), e.key)
	}
	for range 40 {
		key := d.word()
		wantSpot(t, "Find of any, in the end", find(t, m, s, x.n, key), x.look(key))
	}
}

// P10.2: keys that all begin at one slot, of one length, up to a full dictionary; with each put all are found again, and one that isn't put is not.
func TestAllAtOneSlot(t *testing.T) {
	const n = 16
	p := laid(t, api.Conf{Docs: 1, Terms: 64, Book: 200, Room: 100})
	for _, home := range []int{0, 5, n - 1} {
		l := homed(n, home, n+1)
		m := filled(t, p.Cells, zero)
		s := p.Base[api.Room] + 3
		var used counts
		for i, key := range l[:n] {
			where := find(t, m, s, n, key)
			wantSpot(t, "Find ahead of its Put", where, spot{0, (home + i) % n})
			got := put(t, m, p, used, s, where.slot, key)
			used = got.used
			for j, old := range l[:i+1] {
				wantSpot(t, "Find", find(t, m, s, n, old), spot{3 + 5*j, (home + j) % n})
				wantKey(t, "Read", read(t, m, 3+5*j), old)
			}
		}
		wantSpot(t, "Find of another one", find(t, m, s, n, l[n]), spot{0, -1})
	}
}

// P10.2: tails that are stored between Puts turn no key, and no Put turns a tail.
func TestTailsAndKeys(t *testing.T) {
	const n = 64
	p := laid(t, api.Conf{Docs: 1, Terms: 64, Book: 300, Room: 100})
	d := dice(9)
	m := filled(t, p.Cells, zero)
	s := p.Base[api.Room] + 3
	var used counts
	tails, keys := map[int]int{}, map[int]string{}
	for range 300 {
		key := d.word()
		where := find(t, m, s, n, key)
		if where.record == 0 {
			got := put(t, m, p, used, s, where.slot, key)
			if got.err != api.OK {
				continue
			}
			used, where.record = got.used, got.record
			keys[got.record] = key
		}
		if v := tail(t, m, where.record); v != tails[where.record] {
			t.Fatalf("the tail of %q: %d, want %d", key, v, tails[where.record])
		}
		tails[where.record] = d.roll(math.MaxUint32)
		done(t, m, func(r *step.Run) { dict.SetTail(r, where.record, tails[where.record]) })
	}
	if len(keys) < 20 {
		t.Fatalf("only %d keys were put", len(keys))
	}
	for record, key := range keys {
		wantKey(t, "Read", read(t, m, record), key)
		if v := tail(t, m, record); v != tails[record] {
			t.Fatalf("the tail of %q, in the end: %d, want %d", key, v, tails[record])
		}
	}
}

// search is a Find on its way: what it tells, and whether its key was there when it began.
type search struct {
	run   *step.Run
	key   string
	got   *spot
	there bool
	fixed spot // where it is, if it was there
}

// begin is a Find from now on.
func begin(m *mem.Mem, x *model, key string) *search {
	where := x.look(key)
	return &search{step.New(m), key, new(spot), where.record > 0, where}
}

// pick makes a step of it: whether it is over.
func (y *search) pick(s, n int) bool {
	return y.run.Step(func(r *step.Run) { y.got.record, y.got.slot = dict.Find(r, s, n, y.key) })
}

// check holds what it tells against what may be, when the dictionary then holds what x says: a key that was there is found; one that isn't there now isn't; one that was put meanwhile is found where it is, or isn't.
func (y *search) check(t *testing.T, x *model) {
	t.Helper()
	now := x.look(y.key)
	switch {
	case y.there:
		wantSpot(t, "Find of one that was there", *y.got, y.fixed)
	case y.got.record != 0:
		wantSpot(t, "Find of one that was put meanwhile", *y.got, now)
	case y.got.slot < -1 || y.got.slot >= x.n || y.got.slot == -1 && now.slot >= 0 && now.record == 0:
		t.Fatalf("Find of one that isn't there: the slot %d; one is empty at %d", y.got.slot, now.slot)
	}
}

// P10.3: while keys are looked for and put by a writer, Step by Step, Finds of these and of others are right at each time.
func TestUndisturbed(t *testing.T) {
	const n = 32
	there, meanwhile, never := 0, 0, 0
	for seed := range 80 {
		d := dice(seed)
		p := laid(t, api.Conf{Docs: 1, Terms: 64, Book: 250, Room: 100})
		m := filled(t, p.Cells, zero)
		s := p.Base[api.Room] + 3
		x := &model{n: n, slots: map[int]entry{}}
		finds := map[int]*search{}
		writing := d.word()
		picks := func() {
			for range d.roll(9) {
				k := d.roll(7)
				if finds[k] == nil {
					finds[k] = begin(m, x, []string{writing, d.word()}[d.roll(2)])
				}
				if !finds[k].pick(s, n) {
					continue
				}
				finds[k].check(t, x)
				switch {
				case finds[k].there:
					there++
				case finds[k].got.record != 0:
					meanwhile++
				default:
					never++
				}
				delete(finds, k)
			}
		}
		var used counts
		for range 60 {
			writing = d.word()
			where := x.look(writing)
			if where.record > 0 || where.slot < 0 {
				continue
			}
			var got answer
			writer := step.New(m)
			for over := false; !over; { // what it tells counts only behind its last Step
				picks()
				over = writer.Step(func(r *step.Run) {
					got = answer{}
					a, slot := dict.Find(r, s, n, writing)
					if a == 0 && slot >= 0 && !r.Off() {
						got.record, got.used, got.err = dict.Put(r, p, used, s, slot, writing)
					}
				})
			}
			if got.err != api.OK {
				continue
			}
			record, _ := x.add(p.Base[api.Book], p.Size[api.Book], where.slot, writing)
			used[api.Book] = x.used
			wantAnswer(t, "Put", got, answer{record, used, api.OK})
		}
		x.hold(t, m, s, &d)
	}
	if min(there, never) < 300 || meanwhile < 20 {
		t.Errorf("there %d, put meanwhile %d, not there %d", there, meanwhile, never)
	}
}

// P10.3: at each step of a Put of a key a whole Find of it: it isn't found until the last step, and then with all its cells.
func TestFoundAtOnce(t *testing.T) {
	p := laid(t, example())
	for _, key := range keys() {
		m := filled(t, p.Cells, zero)
		const s, n = 300, 4
		home := homeOf(key, n)
		r := step.New(m)
		for over := false; !over; {
			wantSpot(t, "Find ahead of the end of a Put", find(t, m, s, n, key), spot{0, home})
			over = r.Step(func(r *step.Run) { dict.Put(r, p, counts{}, s, home, key) })
		}
		wantSpot(t, "Find behind a Put", find(t, m, s, n, key), spot{3, home})
		wantKey(t, "Read behind a Put", read(t, m, 3), short(key))
	}
}

// P10.3: a Find of each key, behind each of whose Steps another key is put as a whole, until nothing fits any more; all begin at one slot.
func TestUndisturbedByRows(t *testing.T) {
	const n, s = 16, 210
	p := laid(t, example())
	l := homed(n, 7, n+1)
	for own := range n {
		for first := range n { // how many of the others are there ahead of it
			others := slices.Delete(slices.Clone(l), own, own+1)
			m := filled(t, p.Cells, zero)
			x := &model{n: n, slots: map[int]entry{}}
			var used counts
			add := func(key string) {
				where := x.look(key)
				if where.record > 0 || where.slot < 0 {
					return
				}
				x.add(p.Base[api.Book], p.Size[api.Book], where.slot, key)
				used = put(t, m, p, used, s, where.slot, key).used
			}
			for _, key := range others[:first] {
				add(key)
			}
			absent := begin(m, x, l[own])
			for i := first; !absent.pick(s, n); i++ {
				add(others[i%len(others)])
			}
			if absent.got.record != 0 {
				t.Fatalf("a key that isn't put was found: %v", *absent.got)
			}
			absent.check(t, x)
		}
	}
}

// P10.3: a key that is there is found, with others put behind each Step.
func TestUndisturbedOwn(t *testing.T) {
	const n, s = 16, 210
	p := laid(t, example())
	l := homed(n, 15, n)
	for own := range n {
		m := filled(t, p.Cells, zero)
		x := &model{n: n, slots: map[int]entry{}}
		var used counts
		add := func(key string) {
			where := x.look(key)
			x.add(p.Base[api.Book], p.Size[api.Book], where.slot, key)
			used = put(t, m, p, used, s, where.slot, key).used
		}
		for _, key := range l[:own+1] {
			add(key)
		}
		y := begin(m, x, l[own])
		for i := own + 1; !y.pick(s, n); i++ {
			if i < n {
				add(l[i])
			}
		}
		wantSpot(t, "Find", *y.got, spot{3 + 5*own, (15 + own) % n})
	}
}
