package step_test

import (
	"math"
	"slices"
	"testing"

	"plover/api"
	"plover/mem"
	"plover/step"
)

// far are numbers that are no addresses.
var far = []int{-1, -2, math.MinInt, math.MinInt + 1, math.MaxInt, math.MaxInt - 1, math.MinInt32, math.MaxInt32}

// holding is a memory that holds these cells.
func holding(t *testing.T, cells ...uint32) *mem.Mem {
	t.Helper()
	m, err := mem.New(len(cells))
	if err != api.OK {
		t.Fatal(err)
	}
	for a, v := range cells {
		m.Store(a, v)
	}
	return m
}

// wantCells holds what a memory holds against what is wanted.
func wantCells(t *testing.T, m *mem.Mem, want ...uint32) {
	t.Helper()
	if l := m.Cells(); !slices.Equal(l, want) {
		t.Errorf("the memory holds %v, want %v", l, want)
	}
}

// wantRun holds what a run tells of itself, outside of a Step, against what is wanted.
func wantRun(t *testing.T, r *step.Run, over bool, count int, err api.Errno) {
	t.Helper()
	if r.Over() != over || r.Count() != count || r.Err() != err {
		t.Errorf("Over %v, Count %d, Err %v; want %v, %d, %v", r.Over(), r.Count(), r.Err(), over, count, err)
	}
}

// wantStep makes a Step and holds its answer against the one wanted.
func wantStep(t *testing.T, r *step.Run, program func(r *step.Run), over bool) {
	t.Helper()
	if got := r.Step(program); got != over || r.Over() != over {
		t.Errorf("Step = %v, Over = %v, want %v", got, r.Over(), over)
	}
}

// accesses is how many a memory has answered.
func accesses(m *mem.Mem) int {
	return m.Loads() + m.Stores()
}

// example is the chapter's program.
func example(r *step.Run) {
	r.Store(1, 5)
	r.Store(2, r.Load(1))
}

// never is a program that must not be called.
func never(t *testing.T) func(r *step.Run) {
	return func(r *step.Run) { t.Error("the program was called") }
}

// P3.1 and P3.3: the chapter's example, undisturbed.
func TestExample(t *testing.T) {
	m := holding(t, 0, 0, 0)
	r := step.New(m)
	wantRun(t, r, false, 0, api.OK)
	for i, want := range [][]uint32{{0, 5, 0}, {0, 5, 0}, {0, 5, 5}} {
		wantStep(t, r, example, i == 2)
		wantRun(t, r, i == 2, i+1, api.OK)
		wantCells(t, m, want...)
	}
}

// P3.1 and P3.2: the chapter's example with a store by somebody else behind the first Step, and behind the second one, which is too late.
func TestExampleDisturbed(t *testing.T) {
	for at, want := range [][]uint32{{0, 5, 5}, {0, 9, 9}, {0, 9, 5}, {0, 9, 5}} {
		m := holding(t, 0, 0, 0)
		r := step.New(m)
		for i := range 4 {
			if i == at {
				m.Store(1, 9)
			}
			r.Step(example)
		}
		wantRun(t, r, true, 3, api.OK)
		wantCells(t, m, want...)
	}
}

// P3.1: a program without an access is over behind one Step, and is called once.
func TestNoAccess(t *testing.T) {
	m := holding(t, 3)
	r := step.New(m)
	calls := 0
	wantStep(t, r, func(r *step.Run) { calls++ }, true)
	wantRun(t, r, true, 0, api.OK)
	wantStep(t, r, func(r *step.Run) { calls++ }, true)
	if calls != 1 {
		t.Errorf("the program was called %d times", calls)
	}
	if r.Off() {
		t.Error("the run is off")
	}
}

// P3.1 and P3.2: each Step calls the program once and makes just one access, of its own kind, in order; behind the last one it does nothing.
func TestOneAtATime(t *testing.T) {
	m := holding(t, 1, 2, 3, 4)
	calls := 0
	program := func(r *step.Run) {
		calls++
		r.Load(0)
		r.Store(1, 20)
		r.Store(1, 21)
		r.Load(1)
		r.Load(1)
		r.Store(3, 40)
	}
	r := step.New(m)
	loads, stores := m.Loads(), m.Stores()
	kinds := "LSSLLS"
	for i := range kinds {
		wantStep(t, r, program, i == len(kinds)-1)
		if kinds[i] == 'L' {
			loads++
		} else {
			stores++
		}
		if m.Loads() != loads || m.Stores() != stores || calls != i+1 {
			t.Errorf("Step %d: %d loads, %d stores, %d calls; want %d, %d, %d", i, m.Loads(), m.Stores(), calls, loads, stores, i+1)
		}
		wantRun(t, r, i == len(kinds)-1, i+1, api.OK)
	}
	for range 3 {
		wantStep(t, r, never(t), true)
		wantStep(t, r, nil, true)
	}
	wantRun(t, r, true, len(kinds), api.OK)
	if m.Loads() != loads || m.Stores() != stores {
		t.Error("a run that is over has made an access")
	}
	wantCells(t, m, 1, 21, 3, 40)
}

// P3.1 and P3.2: what was read is answered as then, whatever the cell holds now; what was stored isn't stored again.
func TestAsThen(t *testing.T) {
	m := holding(t, 10, 20, 30, 40)
	var read []uint32
	program := func(r *step.Run) {
		read = nil
		read = append(read, r.Load(0))
		r.Store(1, 21)
		read = append(read, r.Load(0), r.Load(1), r.Load(2))
	}
	r := step.New(m)
	for i, want := range [][]uint32{{10, 0, 0, 0}, {10, 0, 0, 0}, {10, 102, 0, 0}, {10, 102, 203, 0}, {10, 102, 203, 304}} {
		wantStep(t, r, program, i == 4)
		if !slices.Equal(read, want) {
			t.Errorf("behind Step %d: read %v, want %v", i+1, read, want)
		}
		if l := m.Cells(); l[1] != []uint32{20, 21, 202, 203, 204}[i] || l[3] != 40 {
			t.Errorf("behind Step %d: the memory holds %v", i+1, l)
		}
		for a := range 3 {
			m.Store(a, uint32(100*(a+1)+i+1))
		}
	}
}

// P3.1: a program reads its own store only by a Load, and then what is there.
func TestOwnStore(t *testing.T) {
	m := holding(t, 0, 0)
	var v uint32
	program := func(r *step.Run) {
		r.Store(0, 5)
		v = r.Load(0)
	}
	r := step.New(m)
	wantStep(t, r, program, false)
	if v != 0 {
		t.Errorf("off, a Load answered %d", v)
	}
	wantStep(t, r, program, true)
	if v != 5 {
		t.Errorf("Load = %d, want 5", v)
	}
}

// P3.1: within a Step a run is off from the access behind the new one on, up to the end of the call; a Load answers 0 then, and nothing is stored or counted.
func TestOff(t *testing.T) {
	m := holding(t, 7, 7, 7, 7)
	var offs []bool
	var loads []uint32
	program := func(r *step.Run) {
		offs, loads = []bool{r.Off()}, nil
		for a := range 3 {
			loads = append(loads, r.Load(a))
			offs = append(offs, r.Off())
		}
		r.Store(3, 8)
		offs = append(offs, r.Off())
		if r.Over() || r.Err() != api.OK {
			t.Error("over within a Step")
		}
	}
	r := step.New(m)
	for i, want := range [][]bool{
		{false, false, true, true, true},
		{false, false, false, true, true},
		{false, false, false, false, true},
		{false, false, false, false, false},
	} {
		if r.Off() {
			t.Errorf("ahead of Step %d the run is off", i+1)
		}
		wantStep(t, r, program, i == 3)
		if !slices.Equal(offs, want) {
			t.Errorf("Step %d: off %v, want %v", i+1, offs, want)
		}
		if wanted := append(slices.Repeat([]uint32{7}, min(i+1, 3)), 0, 0, 0)[:3]; !slices.Equal(loads, wanted) {
			t.Errorf("Step %d: loads %v, want %v", i+1, loads, wanted)
		}
		if m.Loads() != min(i+1, 3) || r.Count() != i+1 {
			t.Errorf("Step %d: %d loads, Count %d", i+1, m.Loads(), r.Count())
		}
		wantCells(t, m, 7, 7, 7, []uint32{7, 7, 7, 8}[i])
	}
	if r.Off() {
		t.Error("a run that came to its end is off")
	}
}

// P3.1: asking Off ends a program that would go on for long; it is over when it has read what it waits for.
func TestWaiting(t *testing.T) {
	m := holding(t, 0, 1)
	program := func(r *step.Run) {
		for r.Load(0) == 0 && !r.Off() {
		}
		r.Store(1, 2)
	}
	r := step.New(m)
	for i := range 50 {
		wantStep(t, r, program, false)
		wantRun(t, r, false, i+1, api.OK)
		wantCells(t, m, 0, 1)
	}
	m.Store(0, 4)
	wantStep(t, r, program, false)
	wantCells(t, m, 4, 1)
	wantStep(t, r, program, true)
	wantRun(t, r, true, 52, api.OK)
	wantCells(t, m, 4, 2)
}

// P3.1: a program goes where what it has read leads it, when it has read it: the end may come earlier or later.
func TestBranch(t *testing.T) {
	for _, first := range []uint32{0, 1, 2, 5} {
		m := holding(t, 99, 0)
		program := func(r *step.Run) {
			for range r.Load(0) {
				r.Store(1, r.Load(1)+1)
				if r.Off() {
					return
				}
			}
		}
		r := step.New(m)
		m.Store(0, first)
		for i := range 2 * int(first) {
			wantStep(t, r, program, false)
			m.Store(0, 1000+uint32(i))
		}
		wantStep(t, r, program, true)
		wantRun(t, r, true, 1+2*int(first), api.OK)
		wantCells(t, m, m.Cells()[0], first)
	}
}

// P3.1: an access where there is no cell makes the run over, and off; those ahead of it are made, it and those behind it aren't, and it isn't counted.
func TestOutside(t *testing.T) {
	for _, a := range append([]int{4, 5}, far...) {
		for name, bad := range map[string]func(r *step.Run) uint32{
			"Load":  func(r *step.Run) uint32 { return r.Load(a) },
			"Store": func(r *step.Run) uint32 { r.Store(a, 9); return 0 },
		} {
			for ahead := range 3 {
				m := holding(t, 1, 2, 3, 4)
				before := accesses(m)
				var got, behind uint32
				var off bool
				program := func(r *step.Run) {
					for i := range ahead {
						r.Store(i, 10)
					}
					got = bad(r)
					off = r.Off()
					behind = r.Load(3)
					r.Store(3, 11)
				}
				r := step.New(m)
				for i := range ahead {
					wantStep(t, r, program, false)
					wantRun(t, r, false, i+1, api.OK)
					if !off || r.Off() {
						t.Errorf("%s(%d) is a further access: off %v, behind the Step %v", name, a, off, r.Off())
					}
				}
				wantStep(t, r, program, true)
				wantRun(t, r, true, ahead, api.ErrBounds)
				if got != 0 || behind != 0 || !off || !r.Off() {
					t.Errorf("%s(%d): %d, behind it %d, off %v, behind the Step %v", name, a, got, behind, off, r.Off())
				}
				wantStep(t, r, never(t), true)
				wantStep(t, r, nil, true)
				wantRun(t, r, true, ahead, api.ErrBounds)
				wantCells(t, m, append(slices.Repeat([]uint32{10}, ahead), []uint32{1, 2, 3, 4}[ahead:]...)...)
				if accesses(m) != before+ahead {
					t.Errorf("%s(%d): %d accesses, want %d", name, a, accesses(m)-before, ahead)
				}
			}
		}
	}
}

// P3.1: the first and the last cell are there.
func TestEdges(t *testing.T) {
	for _, n := range []int{1, 2, api.MaxCells} {
		m, _ := mem.New(n)
		r := step.New(m)
		program := func(r *step.Run) {
			r.Store(0, 1)
			r.Store(n-1, r.Load(n-1)+2)
		}
		for i := range 3 {
			wantStep(t, r, program, i == 2)
		}
		wantRun(t, r, true, 3, api.OK)
		if l := m.Cells(); l[n-1] != 2+uint32(1/n) {
			t.Errorf("%d cells: the last one holds %d", n, l[n-1])
		}
	}
}

// P3.1: a nil run is over and off, with ErrArg; it calls nothing.
func TestNilRun(t *testing.T) {
	var r *step.Run
	for range 2 {
		wantRun(t, r, true, 0, api.ErrArg)
		if !r.Off() {
			t.Error("a nil run isn't off")
		}
		wantStep(t, r, never(t), true)
		wantStep(t, r, nil, true)
		for _, a := range append([]int{0, 1}, far...) {
			r.Store(a, 1)
			if v := r.Load(a); v != 0 {
				t.Errorf("Load(%d) = %d", a, v)
			}
		}
	}
}

// P3.1: a run of a nil memory is over, with ErrArg; it calls nothing.
func TestNilMemory(t *testing.T) {
	r := step.New(nil)
	for range 2 {
		wantRun(t, r, true, 0, api.ErrArg)
		wantStep(t, r, never(t), true)
		wantStep(t, r, nil, true)
		r.Store(0, 1)
		if v := r.Load(0); v != 0 {
			t.Errorf("Load(0) = %d", v)
		}
	}
}

// P3.1: a nil program, at the beginning or on the way, makes the run over, with ErrArg; what was done stays done.
func TestNilProgram(t *testing.T) {
	for ahead := range 3 {
		m := holding(t, 0, 0, 0)
		r := step.New(m)
		for range ahead {
			wantStep(t, r, example, false)
		}
		before := accesses(m)
		wantStep(t, r, nil, true)
		wantRun(t, r, true, ahead, api.ErrArg)
		wantStep(t, r, never(t), true)
		wantRun(t, r, true, ahead, api.ErrArg)
		wantCells(t, m, 0, uint32(min(ahead, 1)*5), 0)
		if accesses(m) != before {
			t.Error("a nil program has made an access")
		}
	}
}

// P3.1: outside of a Step, Load and Store answer 0 and do nothing, at addresses with a cell and without.
func TestOutsideOfAStep(t *testing.T) {
	m := holding(t, 0, 7, 7)
	r := step.New(m)
	idle := func(over bool, count int) {
		t.Helper()
		before, cells := accesses(m), m.Cells()
		for _, a := range append([]int{0, 1, 2, 3}, far...) {
			r.Store(a, 99)
			if v := r.Load(a); v != 0 {
				t.Errorf("Load(%d) = %d", a, v)
			}
		}
		wantRun(t, r, over, count, api.OK)
		if r.Off() || accesses(m) != before {
			t.Error("the run is off, or an access was made")
		}
		wantCells(t, m, cells...)
	}
	idle(false, 0)
	for i := range 3 {
		wantStep(t, r, example, i == 2)
		idle(i == 2, i+1)
	}
	wantCells(t, m, 0, 5, 5)
}

// P3.1: so it is behind a program that ended earlier than it did before, and so left accesses that weren't asked for again.
func TestOutsideBehindALesserProgram(t *testing.T) {
	m := holding(t, 0, 7, 7)
	r := step.New(m)
	r.Step(example)
	r.Step(example)
	wantStep(t, r, func(r *step.Run) {}, true)
	for range 3 {
		if v := r.Load(1); v != 0 {
			t.Errorf("Load(1) = %d", v)
		}
	}
	wantRun(t, r, true, 2, api.OK)
}

// P3.1 and P3.2: a program that calls Step of its own run ends, and a Step still makes one access.
func TestStepWithinAStep(t *testing.T) {
	m := holding(t, 0, 0, 0)
	var program func(r *step.Run)
	program = func(r *step.Run) {
		r.Store(0, 1)
		if r.Step(program) || r.Step(example) {
			t.Error("a Step within a Step is over")
		}
		r.Store(2, 3)
	}
	r := step.New(m)
	for i, want := range [][]uint32{{1, 0, 0}, {1, 0, 3}} {
		before := accesses(m)
		wantStep(t, r, program, i == 1)
		wantRun(t, r, i == 1, i+1, api.OK)
		wantCells(t, m, want...)
		if accesses(m) != before+1 {
			t.Errorf("%d accesses in a Step", accesses(m)-before)
		}
	}
}

// P3.2: behind a panic that passes through a Step nothing is stored outside of one, and further Steps go on.
func TestBehindAPanic(t *testing.T) {
	m := holding(t, 0, 0, 0)
	r := step.New(m)
	func() {
		defer func() { recover() }()
		r.Step(func(r *step.Run) {
			example(r)
			panic("a fault")
		})
	}()
	r.Store(2, 77)
	wantCells(t, m, 0, 5, 0)
	wantStep(t, r, example, false)
	wantStep(t, r, example, true)
	wantRun(t, r, true, 3, api.OK)
	wantCells(t, m, 0, 5, 5)
}

// P3.1: runs are apart from each other, be they of one memory or of two.
func TestApart(t *testing.T) {
	m, other := holding(t, 0, 0, 0), holding(t, 0, 0, 0)
	a, b, c := step.New(m), step.New(m), step.New(other)
	up := func(r *step.Run) {
		r.Store(1, r.Load(1)+1)
		r.Load(9)
	}
	wantStep(t, a, up, false)
	wantStep(t, b, up, false)
	wantStep(t, a, up, false)
	wantStep(t, b, up, false)
	wantCells(t, m, 0, 1, 0) // both have read 0: neither waits for the other one
	wantStep(t, a, up, true)
	wantRun(t, a, true, 2, api.ErrBounds)
	wantRun(t, b, false, 2, api.OK)
	wantRun(t, c, false, 0, api.OK)
	wantCells(t, other, 0, 0, 0)
}
