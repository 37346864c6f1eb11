// Package mem is layer 1: see shared/doc/01-mem.md.
package mem

import "plover/api"

// Mem is cells, and how many loads and stores they were asked for.
type Mem struct {
	cells         []uint32
	loads, stores int
}

// New is a memory of n cells that are 0.
func New(n int) (*Mem, api.Errno) {
	if n < 1 || n > api.MaxCells {
		return nil, api.ErrArg
	}
	return &Mem{cells: make([]uint32, n)}, api.OK
}

// Load is what a cell holds.
func (m *Mem) Load(a int) (uint32, api.Errno) {
	if !m.has(a) {
		return 0, api.ErrBounds
	}
	m.loads++
	return m.cells[a], api.OK
}

// Store makes a cell hold a number.
func (m *Mem) Store(a int, v uint32) api.Errno {
	if !m.has(a) {
		return api.ErrBounds
	}
	m.stores++
	m.cells[a] = v
	return api.OK
}

// has tells whether there is a cell of this address; a nil memory has none.
func (m *Mem) has(a int) bool {
	return a >= 0 && a < m.Len()
}

// Len is how many cells there are.
func (m *Mem) Len() int {
	if m == nil {
		return 0
	}
	return len(m.cells)
}

// Loads is how many loads were answered OK.
func (m *Mem) Loads() int {
	if m == nil {
		return 0
	}
	return m.loads
}

// Stores is how many stores were answered OK.
func (m *Mem) Stores() int {
	if m == nil {
		return 0
	}
	return m.stores
}

// Cells is what all hold, in order: a copy, so that only Store can turn a cell.
func (m *Mem) Cells() []uint32 {
	if m == nil {
		return nil
	}
	l := make([]uint32, len(m.cells))
	copy(l, m.cells)
	return l
}
