package find_test

import (
	"math"
	"strings"
	"testing"

	"plover/api"
	"plover/find"
	"plover/mem"
	"plover/step"
)

// wantEnd: on any memory each part ends, behind no more accesses than are said, stores nothing and doesn't panic.
func wantEnd(t *testing.T, m *mem.Mem, a int, keys []string, mosts []int) {
	t.Helper()
	run(t, m, func(r *step.Run) { find.Docs(r, a) })
	for _, key := range keys {
		run(t, m, func(r *step.Run) { find.Term(r, a, key) })
	}
	for _, most := range mosts {
		run(t, m, func(r *step.Run) { find.List(r, a, most) })
	}
}

// far are addresses below a memory of n cells, at its ends, and behind it.
func far(n int) []int {
	return append([]int{0, 1, n / 2, n - 2, n - 1, n, n + 1, n + 2, -3, 1 << 32, -1 << 32}, ends...)
}

// someKeys and someMosts are few of all kinds.
func someKeys() []string {
	return []string{"", "\x00", "\x00fox", "\xff\xff\xff\xff\xff", strings.Repeat("\x00", 17), strings.Repeat("\xff", 17), strings.Repeat("\x00", 200)}
}

func someMosts() []int {
	return []int{math.MinInt, -1, 0, 1, 64, 65536, math.MaxInt}
}

// fills are what the cells of a memory may be.
func fills() []func(d *dice, a int) uint32 {
	l := []func(d *dice, a int) uint32{
		func(d *dice, a int) uint32 { return d.any() },
		func(d *dice, a int) uint32 { return uint32(d.roll(3)) },
		func(d *dice, a int) uint32 { return uint32(d.roll(65)) },
		func(d *dice, a int) uint32 { return uint32(d.roll(256)) * 0x01010101 },
		func(d *dice, a int) uint32 { return uint32(a) },
		func(d *dice, a int) uint32 { return uint32(a + 1) },
	}
	for _, v := range []uint32{0, 1, 2, 3, 4, 64, 65, 255, 256, 257, 65535, 65536, 0x7f7f7f7f, 0x80808080, 0x00ffffff, 1 << 31, math.MaxUint32} {
		l = append(l, func(*dice, int) uint32 { return v })
	}
	return l
}

// P15.3: on memories of all kinds of cells, at addresses within and without.
func TestAnyMemory(t *testing.T) {
	d := dice(1)
	for _, fill := range fills() {
		for _, n := range []int{1, 2, 3, 40, 300} {
			cells := make([]uint32, n)
			for a := range cells {
				cells[a] = fill(&d, a)
			}
			m := memory(t, cells)
			for _, a := range far(n) {
				wantEnd(t, m, a, someKeys(), someMosts())
			}
			wantCells(t, m, cells)
		}
	}
}

// P15.3: on drawn memories, the address that is asked for holding often what a list or an image holds there.
func TestDrawnMemory(t *testing.T) {
	for i := range 400 {
		d := dice(i)
		cells := make([]uint32, 1+d.roll(400))
		fill := fills()[d.roll(6)]
		for a := range cells {
			cells[a] = fill(&d, a)
		}
		a := d.roll(len(cells))
		cells[a] = uint32(d.roll(70))
		if a+1 < len(cells) && d.roll(2) == 0 {
			cells[a+1] = uint32(d.roll(300))
		}
		m := memory(t, cells)
		wantEnd(t, m, a, append(someKeys(), d.key(17), d.key(17)), append(someMosts(), d.roll(100)))
		wantCells(t, m, cells)
	}
}

// P15.3: on images of which a single cell is changed, and on ones that end too early.
func TestChangedImages(t *testing.T) {
	for i := range 3 {
		d := dice(50 + i)
		w := d.world(t, 30+d.roll(30), d.contentOf(5, []string{"", "\x00a", "\x00ab", "\xfe"}))
		cells := w.m.Cells()
		keys := []string{"", "\x00", "\x00a", "\x00ab", "\x00abc", "\xff"}
		for a, was := range cells {
			for _, v := range []uint32{0, 1, was + 1, was - 1, was ^ 1<<16, was ^ 1<<31, ^was, 64, 256, math.MaxUint32, d.any()} {
				w.m.Store(a, v)
				wantEnd(t, w.m, w.at, keys, nil)
				for _, list := range w.addresses(t) {
					wantEnd(t, w.m, list, nil, []int{1, 3, 5, math.MaxInt})
				}
			}
			w.m.Store(a, was)
		}
		wantCells(t, w.m, cells)
		for n := 1; n < len(cells); n++ {
			m := memory(t, cells[:n])
			wantEnd(t, m, w.at, keys, nil)
			for _, list := range w.addresses(t) {
				wantEnd(t, m, list, nil, []int{1, 3, 5, math.MaxInt})
			}
		}
	}
}

// P15.3: on the greatest memory, with as many entries and places as a list can tell, each number being of as many bytes as can be.
func TestGreatestMemory(t *testing.T) {
	cells := make([]uint32, api.MaxCells)
	for a := range cells {
		cells[a] = 0xFFFFFFFF
	}
	cells[0] = api.MaxDocs
	m := memory(t, cells)
	wantEnd(t, m, 0, someKeys(), []int{0, math.MaxInt})
	wantCells(t, m, cells)
}

// P15.3: where all records are one, that is as long as the memory, and is like the key that is looked for but for its end.
func TestOneRecord(t *testing.T) {
	for _, key := range []string{strings.Repeat("a", 17), strings.Repeat("a", 4096), strings.Repeat("a", 28100), strings.Repeat("a", 250000)} {
		for _, length := range []int{len(key) - 1, len(key), len(key) + 1} {
			cells := make([]uint32, api.MaxCells)
			for a := range cells {
				cells[a] = 0x61616161
			}
			cells[0], cells[1] = 1, 256
			for i := range 256 {
				cells[2+2*i] = 600
			}
			cells[601] = uint32(length)
			wantEnd(t, memory(t, cells), 0, []string{key}, nil)
		}
	}
}

// P15.3: without a memory, without a run, outside of a Step, and where the run is off, nothing is read, and all end.
func TestNoMemory(t *testing.T) {
	all := func(r *step.Run) {
		for _, a := range far(1) {
			find.Docs(r, a)
			for _, key := range someKeys() {
				find.Term(r, a, key)
			}
			for _, most := range someMosts() {
				find.List(r, a, most)
			}
		}
	}
	all(nil)
	r := step.New(nil)
	if all(r); !r.Step(all) || r.Count() != 0 {
		t.Errorf("without a memory: %d accesses", r.Count())
	}
	m := memory(t, []uint32{2, 2, 2})
	r = step.New(m)
	if all(r); m.Loads() != 0 || r.Count() != 0 {
		t.Errorf("outside of a Step: %d accesses", r.Count())
	}
	r.Step(func(r *step.Run) {
		r.Load(0)
		r.Load(1) // this Step has no further access
		all(r)
	})
	if m.Loads() != 1 || m.Stores() != 3 || r.Count() != 1 {
		t.Errorf("where the run is off: %d accesses", r.Count())
	}
}
