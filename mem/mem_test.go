package mem_test

import (
	"math"
	"slices"
	"testing"

	"plover/api"
	"plover/mem"
)

// fresh is a memory that New must give.
func fresh(t *testing.T, n int) *mem.Mem {
	t.Helper()
	m, err := mem.New(n)
	if err != api.OK || m == nil {
		t.Fatalf("New(%d) = %v, %v", n, m, err)
	}
	return m
}

// wantCounts holds the counted loads and stores against those wanted.
func wantCounts(t *testing.T, m *mem.Mem, loads, stores int) {
	t.Helper()
	if m.Loads() != loads || m.Stores() != stores {
		t.Errorf("Loads, Stores = %d, %d, want %d, %d", m.Loads(), m.Stores(), loads, stores)
	}
}

// wantCell holds what Load answers of a cell against the number wanted.
func wantCell(t *testing.T, m *mem.Mem, a int, want uint32) {
	t.Helper()
	if v, err := m.Load(a); v != want || err != api.OK {
		t.Errorf("Load(%d) = %d, %v, want %d, OK", a, v, err, want)
	}
}

// outside are addresses of which a memory of n cells has none.
func outside(n int) []int {
	return []int{-1, -2, n, n + 1, -n, math.MinInt, math.MinInt + 1, math.MaxInt, math.MinInt32, math.MaxInt32}
}

// P1.1: New at its limits, and beyond them.
func TestNew(t *testing.T) {
	for _, n := range []int{1, 2, 3, 1000, api.MaxCells - 1, api.MaxCells} {
		m := fresh(t, n)
		if m.Len() != n {
			t.Errorf("New(%d).Len() = %d", n, m.Len())
		}
		if l := m.Cells(); !slices.Equal(l, make([]uint32, n)) {
			t.Errorf("New(%d): not just cells that are 0", n)
		}
		wantCounts(t, m, 0, 0)
		wantCell(t, m, 0, 0)
		wantCell(t, m, n-1, 0)
	}
}

// P1.1: a memory of no size that may be is refused, and none is answered beside the error.
func TestNewRefuses(t *testing.T) {
	for _, n := range []int{0, -1, -api.MaxCells, api.MaxCells + 1, 2 * api.MaxCells, math.MinInt, math.MinInt + 1, math.MaxInt} {
		if m, err := mem.New(n); m != nil || err != api.ErrArg {
			t.Errorf("New(%d) = %v, %v, want nil, ErrArg", n, m, err)
		}
	}
}

// P1.1: the chapter's example, call by call.
func TestExample(t *testing.T) {
	m := fresh(t, 2)
	if err := m.Store(1, 7); err != api.OK {
		t.Error("Store(1, 7)", err)
	}
	wantCell(t, m, 1, 7)
	wantCell(t, m, 0, 0)
	if err := m.Store(2, 1); err != api.ErrBounds {
		t.Error("Store(2, 1)", err)
	}
	wantCounts(t, m, 2, 1)
}

// P1.1: where there is no cell nothing is read, stored or counted.
func TestOutside(t *testing.T) {
	for _, n := range []int{1, 2, 7, api.MaxCells} {
		m := fresh(t, n)
		m.Store(0, 11)
		m.Store(n-1, 12)
		before := m.Cells()
		for _, a := range outside(n) {
			if v, err := m.Load(a); v != 0 || err != api.ErrBounds {
				t.Errorf("%d cells: Load(%d) = %d, %v", n, a, v, err)
			}
			if err := m.Store(a, 99); err != api.ErrBounds {
				t.Errorf("%d cells: Store(%d) = %v", n, a, err)
			}
		}
		if !slices.Equal(m.Cells(), before) || m.Len() != n {
			t.Errorf("%d cells: a refused call has changed them", n)
		}
		wantCounts(t, m, 0, 2)
	}
}

// P1.1: loads and stores are counted apart, each only where it is answered OK, and by nothing else.
func TestCounts(t *testing.T) {
	m := fresh(t, 3)
	for i := range 5 {
		m.Store(i, 1)
		wantCounts(t, m, 0, min(i+1, 3))
	}
	for i := range 5 {
		m.Load(i - 1)
		wantCounts(t, m, min(i, 3), 3)
	}
	m.Store(0, 1)
	wantCounts(t, m, 3, 4)
	m.Len()
	m.Cells()
	m.Loads()
	m.Stores()
	wantCounts(t, m, 3, 4)
}

// P1.1: what is handed out is a copy, its spare room too: it turns no cell, and no store turns it.
func TestCellsAreACopy(t *testing.T) {
	m := fresh(t, 4)
	m.Store(2, 5)
	first, second := m.Cells(), m.Cells()
	room := first[:cap(first)]
	for i := range room {
		room[i] = 77
	}
	want := []uint32{0, 0, 5, 0}
	if !slices.Equal(m.Cells(), want) {
		t.Error("writing into what was handed out has changed the memory:", m.Cells())
	}
	m.Store(1, 6)
	if !slices.Equal(second, want) {
		t.Error("what was handed out has changed:", second)
	}
	wantCell(t, m, 1, 6)
	wantCell(t, m, 2, 5)
}

// P1.1: a nil memory answers too.
func TestNil(t *testing.T) {
	var m *mem.Mem
	for _, a := range append(outside(1), 0, 1) {
		if v, err := m.Load(a); v != 0 || err != api.ErrBounds {
			t.Errorf("Load(%d) = %d, %v", a, v, err)
		}
		if err := m.Store(a, 1); err != api.ErrBounds {
			t.Errorf("Store(%d) = %v", a, err)
		}
	}
	if m.Len() != 0 || len(m.Cells()) != 0 {
		t.Error("a nil memory has cells")
	}
	wantCounts(t, m, 0, 0)
}

// P1.1 and P1.2: memories are apart from each other.
func TestTwoMemories(t *testing.T) {
	a, b := fresh(t, 2), fresh(t, 2)
	a.Store(0, 1)
	b.Store(1, 2)
	if !slices.Equal(a.Cells(), []uint32{1, 0}) || !slices.Equal(b.Cells(), []uint32{0, 2}) {
		t.Error(a.Cells(), b.Cells())
	}
	wantCounts(t, a, 0, 1)
	wantCounts(t, b, 0, 1)
}

// P1.2: a cell holds any number whole, and the last one, be it the same one or 0 again.
func TestLastOne(t *testing.T) {
	m := fresh(t, 3)
	for _, v := range []uint32{1, 0, 255, 256, 1 << 16, 1 << 31, math.MaxUint32, math.MaxUint32, 0, 5} {
		if err := m.Store(1, v); err != api.OK {
			t.Errorf("Store(1, %d) = %v", v, err)
		}
		wantCell(t, m, 1, v)
		wantCell(t, m, 1, v)
		if l := m.Cells(); !slices.Equal(l, []uint32{0, v, 0}) {
			t.Errorf("behind Store(1, %d): %v", v, l)
		}
	}
}

// P1.2: in the greatest memory, too, each cell is one of its own.
func TestEveryCell(t *testing.T) {
	m := fresh(t, api.MaxCells)
	for a := range api.MaxCells {
		m.Store(a, uint32(a)*65537+1)
	}
	l := m.Cells()
	for a := range api.MaxCells {
		want := uint32(a)*65537 + 1
		if v, err := m.Load(a); v != want || err != api.OK || l[a] != want {
			t.Fatalf("cell %d: Load %d, %v; Cells %d; want %d", a, v, err, l[a], want)
		}
	}
	wantCounts(t, m, api.MaxCells, api.MaxCells)
}

// P1.1 and P1.2: a long row of calls, edges and addresses without a cell among them, held against a list beside it.
func TestRowOfCalls(t *testing.T) {
	for _, n := range []int{1, 2, 5, 64} {
		m := fresh(t, n)
		want := make([]uint32, n)
		loads, stores := 0, 0
		seed := uint32(n)
		for i := range 4000 {
			seed = seed*1664525 + 1013904223
			a := int(seed>>8)%(n+4) - 2
			inside := a >= 0 && a < n
			if seed>>31 == 0 {
				err := m.Store(a, seed)
				if inside {
					want[a] = seed
					stores++
				}
				if (err == api.OK) != inside || (err == api.ErrBounds) == inside {
					t.Fatalf("%d cells, call %d: Store(%d) = %v", n, i, a, err)
				}
			} else {
				v, err := m.Load(a)
				if inside {
					loads++
				}
				if inside && (v != want[a] || err != api.OK) || !inside && (v != 0 || err != api.ErrBounds) {
					t.Fatalf("%d cells, call %d: Load(%d) = %d, %v", n, i, a, v, err)
				}
			}
			if !slices.Equal(m.Cells(), want) || m.Loads() != loads || m.Stores() != stores || m.Len() != n {
				t.Fatalf("%d cells, behind call %d: %v, %d loads, %d stores; want %v, %d, %d", n, i, m.Cells(), m.Loads(), m.Stores(), want, loads, stores)
			}
		}
	}
}
