package step_test

import (
	"slices"
	"testing"

	"plover/api"
	"plover/mem"
	"plover/step"
)

// dice are numbers that are the same in each run of the tests.
type dice uint32

func (d *dice) below(n int) int {
	*d = *d*1664525 + 1013904223
	return int(*d>>8) % n
}

// The kinds of orders.
const (
	load  = iota // the sum takes in the cell at the address
	store        // the cell at the address holds the sum
	jump         // if the sum is odd, the next order is left out
	kinds
)

// order is one of a list that a program follows; the address moves with the sum, if it is loose: so it hangs on what was read.
type order struct {
	kind, a int
	loose   bool
}

// address is where an order's access is made, of so many cells; a few are where there is none.
func (o order) address(sum uint32, cells int) int {
	if o.loose {
		return (o.a + int(sum%1000)) % cells
	}
	return o.a
}

// follow is the program of a list: its sum is told behind each call.
func follow(list []order, cells int, sum *uint32) func(r *step.Run) {
	return func(r *step.Run) {
		*sum = 1
		for i := 0; i < len(list); i++ {
			o := list[i]
			switch o.kind {
			case load:
				*sum = *sum*31 + r.Load(o.address(*sum, cells))
			case store:
				r.Store(o.address(*sum, cells), *sum)
			case jump:
				i += int(*sum % 2)
			}
			if r.Off() {
				return
			}
		}
	}
}

// machine follows a list without a run: it stands still between its accesses, instead of beginning anew.
type machine struct {
	list  []order
	at    int
	sum   uint32
	count int
	over  bool
	err   api.Errno
}

// pick makes the next access, and goes on up to the one behind it.
func (x *machine) pick(cells []uint32) {
	for made := false; !x.over; {
		if x.at >= len(x.list) {
			x.over = true
			return
		}
		o := x.list[x.at]
		if o.kind == jump {
			x.at += 1 + int(x.sum%2)
			continue
		}
		if made {
			return
		}
		made = true
		x.access(o.kind, o.address(x.sum, len(cells)), cells)
		x.at++
	}
}

// access makes one access.
func (x *machine) access(kind, a int, cells []uint32) {
	if a < 0 || a >= len(cells) {
		x.over, x.err = true, api.ErrBounds
		return
	}
	x.count++
	if kind == load {
		x.sum = x.sum*31 + cells[a]
	} else {
		cells[a] = x.sum
	}
}

// orders are a list of up to most orders; of the addresses, where wild is, a few are outside.
func orders(d *dice, most, cells int, wild bool) []order {
	list := make([]order, d.below(most+1))
	for i := range list {
		list[i] = order{kind: d.below(kinds), a: d.below(cells), loose: d.below(3) == 0}
		if wild && d.below(12) == 0 {
			list[i].a, list[i].loose = cells+d.below(3), false
		}
		if wild && d.below(24) == 0 {
			list[i].a, list[i].loose = -1-d.below(3), false
		}
	}
	return list
}

// wantSame holds a run against the machine that follows the same list.
func wantSame(t *testing.T, r *step.Run, x *machine, sum uint32) {
	t.Helper()
	wantRun(t, r, x.over, x.count, x.err)
	if x.over && x.err == api.OK && sum != x.sum {
		t.Errorf("the sum is %d, want %d", sum, x.sum)
	}
	if t.Failed() {
		t.FailNow()
	}
}

// P3.1 and P3.2: several programs by turns, in any order, with stores by somebody else in between, do behind each Step just what machines do that stand still between their accesses.
func TestByTurns(t *testing.T) {
	for seed := range 1500 {
		d := dice(seed)
		cells := 1 + d.below(6)
		m, _ := mem.New(cells)
		want := make([]uint32, cells)
		runs := make([]*step.Run, 1+d.below(4))
		machines := make([]*machine, len(runs))
		programs := make([]func(r *step.Run), len(runs))
		sums := make([]uint32, len(runs))
		for k := range runs {
			list := orders(&d, 14, cells, seed%2 == 1)
			runs[k], machines[k] = step.New(m), &machine{list: list, sum: 1}
			programs[k] = follow(list, cells, &sums[k])
		}
		for range 20 * len(runs) {
			if d.below(5) == 0 {
				a, v := d.below(cells), uint32(d.below(100))
				m.Store(a, v)
				want[a] = v
			}
			k := d.below(len(runs))
			before := accesses(m)
			machines[k].pick(want)
			if got := runs[k].Step(programs[k]); got != machines[k].over {
				t.Fatalf("seed %d: Step = %v", seed, got)
			}
			if accesses(m) > before+1 {
				t.Fatalf("seed %d: a Step made %d accesses", seed, accesses(m)-before)
			}
			wantSame(t, runs[k], machines[k], sums[k])
			if l := m.Cells(); !slices.Equal(l, want) {
				t.Fatalf("seed %d: the memory holds %v, want %v", seed, l, want)
			}
		}
	}
}

// P3.3: alone, a program leaves the memory as if it had run at once, behind as many Steps as it makes accesses, or one, if it makes none.
func TestAlone(t *testing.T) {
	for seed := range 1500 {
		d := dice(5000 + seed)
		cells := 1 + d.below(6)
		list := orders(&d, 25, cells, false)
		m, _ := mem.New(cells)
		want := make([]uint32, cells)
		for a := range cells {
			want[a] = uint32(d.below(1000))
			m.Store(a, want[a])
		}
		x := &machine{list: list, sum: 1}
		for !x.over {
			x.pick(want)
		}
		var sum uint32
		r, program := step.New(m), follow(list, cells, &sum)
		steps := 1
		for ; !r.Step(program) && steps < 100; steps++ {
		}
		wantSame(t, r, x, sum)
		if steps != max(x.count, 1) {
			t.Fatalf("seed %d: %d Steps, want %d", seed, steps, max(x.count, 1))
		}
		if l := m.Cells(); !slices.Equal(l, want) {
			t.Fatalf("seed %d: the memory holds %v, want %v", seed, l, want)
		}
	}
}

// P3.3: a long program, which fills a memory and turns it around.
func TestLongAlone(t *testing.T) {
	const n = 600
	m, _ := mem.New(n)
	program := func(r *step.Run) {
		for a := 0; a < n && !r.Off(); a++ {
			r.Store(a, uint32(a))
		}
		for a := 0; a < n/2 && !r.Off(); a++ {
			low, high := r.Load(a), r.Load(n-1-a)
			r.Store(a, high)
			r.Store(n-1-a, low)
		}
	}
	r := step.New(m)
	for i := range 3 * n {
		if over := r.Step(program); over != (i == 3*n-1) {
			t.Fatalf("Step %d = %v", i+1, over)
		}
	}
	wantRun(t, r, true, 3*n, api.OK)
	for a, v := range m.Cells() {
		if v != uint32(n-1-a) {
			t.Fatalf("the cell %d holds %d", a, v)
		}
	}
}
