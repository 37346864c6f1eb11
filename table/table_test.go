package table_test

import (
	"math"
	"slices"
	"testing"

	"plover/api"
	"plover/mem"
	"plover/step"
	"plover/table"
)

// most is the greatest number that a cell holds.
const most = math.MaxUint32

// filled is a memory in which each cell holds what value tells of it.
func filled(t *testing.T, n int, value func(a int) uint32) *mem.Mem {
	t.Helper()
	m, err := mem.New(n)
	if err != api.OK {
		t.Fatalf("New(%d) = %v", n, err)
	}
	for a := range n {
		m.Store(a, value(a))
	}
	return m
}

// junk is unlike every number that these tests store, so that each store shows.
func junk(a int) uint32 {
	return 0xDEAD0000 + uint32(a)
}

func zero(int) uint32 {
	return 0
}

// row is one of a memory, cell by cell: birth, id, length, tomb.
type row [4]uint32

// seenOf is how a row is told of that is seen.
func (x row) seenOf(d int) api.Seen {
	return api.Seen{Doc: d, Id: x[1], Length: int(x[2])}
}

// set makes rows, one behind the other, without the package.
func set(m *mem.Mem, b int, rows ...row) {
	for d, x := range rows {
		for k, v := range x {
			m.Store(b+4*d+k, v)
		}
	}
}

// run goes on with a program to its end.
func run(t *testing.T, m *mem.Mem, program func(r *step.Run)) api.Errno {
	t.Helper()
	r := step.New(m)
	for i := 0; !r.Step(program); i++ {
		if i > 1000000 {
			t.Fatal("a program without an end")
		}
	}
	return r.Err()
}

// done runs a program that must come to no missing cell.
func done(t *testing.T, m *mem.Mem, program func(r *step.Run)) {
	t.Helper()
	if err := run(t, m, program); err != api.OK {
		t.Fatalf("the run: %v", err)
	}
}

func rowAt(t *testing.T, m *mem.Mem, b, d int) api.Row {
	t.Helper()
	var got api.Row
	done(t, m, func(r *step.Run) { got = table.Row(r, b, d) })
	return got
}

func seen(t *testing.T, m *mem.Mem, b, n int, v uint32) []api.Seen {
	t.Helper()
	var got []api.Seen
	done(t, m, func(r *step.Run) { got = table.Seen(r, b, n, v) })
	return got
}

func find(t *testing.T, m *mem.Mem, b, n int, id uint32) int {
	t.Helper()
	var got int
	done(t, m, func(r *step.Run) { got = table.Find(r, b, n, id) })
	return got
}

func lay(t *testing.T, m *mem.Mem, b, d int, id, length, birth uint32) {
	t.Helper()
	done(t, m, func(r *step.Run) { table.Lay(r, b, d, id, length, birth) })
}

func kill(t *testing.T, m *mem.Mem, b, d int, v uint32) {
	t.Helper()
	done(t, m, func(r *step.Run) { table.Kill(r, b, d, v) })
}

// wantRow holds a row's answer against the one wanted.
func wantRow(t *testing.T, what string, got, want api.Row) {
	t.Helper()
	if got != want {
		t.Fatalf("%s: %+v, want %+v", what, got, want)
	}
}

// wantSeen holds what is seen against what is wanted.
func wantSeen(t *testing.T, what string, got []api.Seen, want ...api.Seen) {
	t.Helper()
	if !slices.Equal(got, want) {
		t.Fatalf("%s: %+v, want %+v", what, got, want)
	}
}

// wantDoc holds a Find's answer against the one wanted.
func wantDoc(t *testing.T, what string, got, want int) {
	t.Helper()
	if got != want {
		t.Fatalf("%s: the row %d, want %d", what, got, want)
	}
}

// wantCells holds the whole memory against what is wanted.
func wantCells(t *testing.T, what string, m *mem.Mem, want []uint32) {
	t.Helper()
	for a, v := range m.Cells() {
		if v != want[a] {
			t.Fatalf("%s: the cell %d holds %d, want %d", what, a, v, want[a])
		}
	}
}

// P11.1: the chapter's example.
func TestExample(t *testing.T) {
	m := filled(t, 40, zero)
	lay(t, m, 10, 0, 7, 3, 1)
	lay(t, m, 10, 1, 8, 2, 2)
	kill(t, m, 10, 0, 3)
	one, two := api.Seen{Doc: 0, Id: 7, Length: 3}, api.Seen{Doc: 1, Id: 8, Length: 2}
	wantSeen(t, "the version 1", seen(t, m, 10, 2, 1), one)
	wantSeen(t, "the version 2", seen(t, m, 10, 2, 2), one, two)
	wantSeen(t, "the version 3", seen(t, m, 10, 2, 3), two)
	wantDoc(t, "Find of 8", find(t, m, 10, 2, 8), 1)
	want := make([]uint32, 40)
	copy(want[10:], []uint32{1, 7, 3, 3, 2, 8, 2, 0})
	wantCells(t, "behind it", m, want)
}

// place is a base and a row's number, and at which cell the row begins.
type place struct{ b, d, at int }

// places are of rows that lie in a memory of 100 cells, at bases of all kinds.
func places() []place {
	return []place{
		{0, 0, 0}, {0, 24, 96}, {1, 0, 1}, {1, 1, 5}, {3, 7, 31}, {96, 0, 96}, {95, 0, 95}, {10, 21, 94},
		{-4, 1, 0}, {-8, 3, 4}, {-400, 101, 4}, {50 - 1<<42, 1 << 40, 50}, {30 - 1<<62, 1 << 60, 30}, {math.MinInt, 1 << 61, 0}, {math.MinInt + 7, 1<<61 + 5, 27},
	}
}

// numbers are those of cells, up to the ends.
func numbers() []uint32 {
	return []uint32{0, 1, 2, 255, 256, 65535, 65536, 1<<31 - 1, 1 << 31, most - 1, most}
}

// P11.1: Lay stores the id, the length and last the birth, one store a Step, reads nothing, and minds nothing that others store in between; the tomb isn't stored.
func TestLayInOrder(t *testing.T) {
	for _, p := range places() {
		for i, id := range numbers() {
			length, birth := numbers()[(i+3)%11], numbers()[(i+7)%11]
			m := filled(t, 100, junk)
			want, stores := m.Cells(), m.Stores()
			r := step.New(m)
			for k, x := range []struct {
				at int
				v  uint32
			}{{1, id}, {2, length}, {0, birth}} {
				over := r.Step(func(r *step.Run) { table.Lay(r, p.b, p.d, id, length, birth) })
				if over != (k == 2) || r.Count() != k+1 || r.Err() != api.OK {
					t.Fatalf("%+v: Step %d answers %v, behind %d accesses, with %v", p, k+1, over, r.Count(), r.Err())
				}
				want[p.at+x.at] = x.v
				wantCells(t, "behind a Step", m, want)
				for at := range 4 { // others store where it has stored, and where it will store
					want[p.at+at] = uint32(50000 + 10*k + at)
					m.Store(p.at+at, want[p.at+at])
				}
			}
			if m.Loads() != 0 || m.Stores() != stores+3+12 {
				t.Fatalf("%+v: %d loads, %d stores", p, m.Loads(), m.Stores()-stores)
			}
		}
	}
}

// P11.1: Kill stores the tomb, at once, and nothing else; it reads nothing.
func TestKill(t *testing.T) {
	for _, p := range places() {
		m := filled(t, 100, junk)
		want := m.Cells()
		for _, v := range numbers() {
			stores := m.Stores()
			r := step.New(m)
			if !r.Step(func(r *step.Run) { table.Kill(r, p.b, p.d, v) }) || r.Count() != 1 || r.Err() != api.OK {
				t.Fatalf("%+v: %d accesses, %v", p, r.Count(), r.Err())
			}
			want[p.at+3] = v
			wantCells(t, "behind a Kill", m, want)
			if m.Loads() != 0 || m.Stores() != stores+1 {
				t.Fatalf("%+v: %d loads, %d stores", p, m.Loads(), m.Stores()-stores)
			}
		}
	}
}

// P11.1: Row tells the four cells of a row, at any base, and turns nothing.
func TestRow(t *testing.T) {
	for _, p := range places() {
		m := filled(t, 100, junk)
		for i, v := range numbers() {
			x := row{v, numbers()[(i+2)%11], numbers()[(i+5)%11], numbers()[(i+9)%11]}
			set(m, p.at, x)
			want, stores := m.Cells(), m.Stores()
			wantRow(t, "Row", rowAt(t, m, p.b, p.d), api.Row{Birth: x[0], Id: x[1], Length: x[2], Tomb: x[3]})
			wantCells(t, "behind a Row", m, want)
			if m.Stores() != stores {
				t.Fatal("a Row that stores")
			}
		}
	}
}

// P11.1: a row that isn't there yet, one on its way, one that is laid, one that is killed, and one that is laid once more.
func TestRowOfAll(t *testing.T) {
	m := filled(t, 40, zero)
	wantRow(t, "one that isn't there", rowAt(t, m, 11, 2), api.Row{})
	r := step.New(m)
	r.Step(func(r *step.Run) { table.Lay(r, 11, 2, 7, 3, most) })
	wantRow(t, "one on its way", rowAt(t, m, 11, 2), api.Row{Id: 7})
	lay(t, m, 11, 2, 7, 3, most)
	wantRow(t, "one that is laid", rowAt(t, m, 11, 2), api.Row{Birth: most, Id: 7, Length: 3})
	kill(t, m, 11, 2, most-1)
	wantRow(t, "one that is killed", rowAt(t, m, 11, 2), api.Row{Birth: most, Id: 7, Length: 3, Tomb: most - 1})
	lay(t, m, 11, 2, 9, 0, 5)
	wantRow(t, "one that is laid once more", rowAt(t, m, 11, 2), api.Row{Birth: 5, Id: 9, Tomb: most - 1})
	wantRow(t, "the row ahead", rowAt(t, m, 11, 1), api.Row{})
	wantRow(t, "the row behind", rowAt(t, m, 11, 3), api.Row{})
}

// P11.1: Seen goes over n rows at most, and over all there are, if there are fewer.
func TestSeenOf(t *testing.T) {
	rows := []row{{1, 70, 3, 0}, {2, 71, 0, 5}, {3, 72, 9, 0}, {4, 73, 1, 5}, {6, 74, 2, 0}}
	var all []api.Seen
	for d, x := range rows {
		if x[3] == 0 {
			all = append(all, x.seenOf(d))
		}
	}
	for _, b := range []int{0, 1, 17, 36} {
		m := filled(t, 60, zero)
		set(m, b, rows...)
		want, stores := m.Cells(), m.Stores()
		for n, many := range map[int]int{math.MinInt: 0, -1: 0, 0: 0, 1: 1, 2: 1, 3: 2, 4: 2, 5: 3, 6: 3, 64: 3, 1 << 20: 3, 1 << 32: 3, math.MaxInt: 3} {
			wantSeen(t, "Seen of the version 6", seen(t, m, b, n, 6), all[:many]...)
		}
		wantCells(t, "behind all these", m, want)
		if m.Stores() != stores {
			t.Fatal("a Seen that stores")
		}
	}
}

// P11.1: without rows nothing is seen, and no cell is needed, wherever they would begin.
func TestSeenOfNone(t *testing.T) {
	for _, value := range []func(int) uint32{zero, junk} {
		m := filled(t, 8, value)
		for _, b := range []int{0, 5, 8, -1, math.MaxInt, math.MinInt} {
			for _, n := range []int{0, -1, math.MinInt} {
				for _, v := range numbers() {
					wantSeen(t, "Seen of no rows", seen(t, m, b, n, v))
					wantDoc(t, "Find among no rows", find(t, m, b, n, v), -1)
				}
			}
		}
		if m.Loads() != 0 {
			t.Errorf("%d loads", m.Loads())
		}
	}
}

// P11.1: a document is seen from its birth on, and no more from its tomb on; by the version 0 none is.
func TestSeenVersions(t *testing.T) {
	for _, birth := range numbers() {
		for _, tomb := range numbers() {
			x := row{birth, most, most - 7, tomb}
			m := filled(t, 8, zero)
			set(m, 0, x, row{birth, 9, 4, 0})
			for _, at := range []uint32{0, birth, tomb} {
				for _, v := range []uint32{at - 1, at, at + 1} { // beyond the ends they come round, and are versions too
					var want []api.Seen
					if birth != 0 && birth <= v {
						if tomb == 0 || tomb > v {
							want = append(want, x.seenOf(0))
						}
						want = append(want, api.Seen{Doc: 1, Id: 9, Length: 4})
					}
					wantSeen(t, "Seen", seen(t, m, 0, 2, v), want...)
				}
			}
		}
	}
}

// P11.1: the length is told as the number it is, however great.
func TestSeenLength(t *testing.T) {
	for _, v := range numbers() {
		m := filled(t, 4, zero)
		set(m, 0, row{1, v, v, 0})
		got := seen(t, m, 0, 1, 1)
		if len(got) != 1 || got[0].Id != v || uint64(got[0].Length) != uint64(v) {
			t.Fatalf("Seen of the id and length %d: %+v", v, got)
		}
	}
}

// P11.1: a row without a birth, and one that is born above v, ends it, whatever stands in it and behind it.
func TestSeenEnds(t *testing.T) {
	for _, tomb := range []uint32{0, 1, 5, 6, most} {
		for _, birth := range []uint32{0, 6, 7, 1 << 31, most} {
			m := filled(t, 80, junk)
			want := []api.Seen{}
			for d := range 12 { // with the row without a birth behind more and more others
				rows := slices.Repeat([]row{{5, 8, 2, 0}}, 14)
				rows[d] = row{birth, 8, 2, tomb}
				set(m, 3, rows...)
				wantSeen(t, "Seen up to a row that isn't there", seen(t, m, 3, 14, 5), want...)
				want = append(want, api.Seen{Doc: d, Id: 8, Length: 2})
			}
		}
	}
}

// P11.1: a row that is deleted doesn't end it; where all are, nothing is seen.
func TestSeenPassesDeleted(t *testing.T) {
	const n = 6
	for dead := range 1 << n {
		m := filled(t, 4*n, zero)
		var want []api.Seen
		for d := range n {
			x := row{3, uint32(20 - d), uint32(d), uint32(dead >> d & 1 * 4)}
			set(m, 4*d, x)
			if x[3] == 0 {
				want = append(want, x.seenOf(d))
			}
		}
		wantSeen(t, "Seen among deleted ones", seen(t, m, 0, n, 4), want...)
		if got := seen(t, m, 0, n, 3); len(got) != n {
			t.Fatalf("Seen ahead of their tombs: %+v", got)
		}
	}
}

// P11.1: Find answers the first row of n whose id it is, whatever the other cells hold.
func TestFind(t *testing.T) {
	for _, b := range []int{0, 1, 30} {
		m := filled(t, 70, junk)
		set(m, b, row{1, 5, 8, 0}, row{0, 6, 8, 0}, row{9, 5, 8, 2}, row{2, 8, 5, 1}, row{2, 0, 6, 0}, row{0, most, 3, 0}, row{7, 6, 3, 0}, row{7, most, 0, 4})
		want, stores := m.Cells(), m.Stores()
		for id, d := range map[uint32]int{5: 0, 6: 1, 8: 3, 0: 4, most: 5, 1: -1, 2: -1, 3: -1, 4: -1, 7: -1, 9: -1, most - 1: -1, 1 << 31: -1} {
			wantDoc(t, "Find among eight", find(t, m, b, 8, id), d)
			for n := range 8 { // the id's own row may stand behind these
				if d >= n {
					wantDoc(t, "Find of one behind", find(t, m, b, n, id), -1)
				} else {
					wantDoc(t, "Find among fewer", find(t, m, b, n, id), d)
				}
			}
			if d >= 0 {
				wantDoc(t, "Find among as many as may be", find(t, m, b, math.MaxInt, id), d)
			}
			for _, n := range []int{-1, -8, math.MinInt} {
				wantDoc(t, "Find among none", find(t, m, b, n, id), -1)
			}
		}
		wantCells(t, "behind all these", m, want)
		if m.Stores() != stores {
			t.Fatal("a Find that stores")
		}
	}
}

// P11.1: of an id that several rows have Find answers the first one.
func TestFindFirst(t *testing.T) {
	const n = 7
	for _, id := range []uint32{0, 1, 77, most} {
		for has := range 1 << n {
			m := filled(t, 4*n+5, junk)
			want := -1
			for d := n - 1; d >= 0; d-- {
				if has>>d&1 == 1 {
					m.Store(5+4*d+1, id)
					want = d
				}
			}
			wantDoc(t, "Find", find(t, m, 5, n, id), want)
		}
	}
}

// P11.1: in the greatest memory the last row is found, and seen.
func TestLastOfAll(t *testing.T) {
	const n = 64
	m := filled(t, api.MaxCells, zero)
	b := api.MaxCells - 4*n
	for d := range n {
		set(m, b+4*d, row{uint32(d + 1), uint32(d), 2, uint32(d + 2)})
	}
	wantDoc(t, "Find", find(t, m, b, n, n-1), n-1)
	wantDoc(t, "Find of none", find(t, m, b, n, n), -1)
	wantDoc(t, "Find from the first cell on", find(t, m, 0, math.MaxInt, n-1), api.MaxCells/4-1)
	wantSeen(t, "Seen", seen(t, m, b, n, n), api.Seen{Doc: n - 1, Id: n - 1, Length: 2})
	wantRow(t, "Row", rowAt(t, m, b, n-1), api.Row{Birth: n, Id: n - 1, Length: 2, Tomb: n + 1})
	wantRow(t, "Row from the first cell on", rowAt(t, m, 0, api.MaxCells/4-1), api.Row{Birth: n, Id: n - 1, Length: 2, Tomb: n + 1})
}

// far are rows that have no cell in any memory; as numbers that come round they would have some.
func far() []place {
	return []place{
		{0, 1 << 62, 0}, {0, -1 << 62, 0}, {8, 1 << 62, 8}, {0, math.MinInt, 0}, {4, math.MaxInt, 0}, {4, 1<<62 - 1, 0}, {0, 1<<62 + 3, 12},
		{1 << 62, 3 << 60, 0}, {math.MaxInt, 1 << 61, 0}, {math.MinInt, -1 << 61, 0}, {math.MaxInt - 3, 1<<61 + 2, 4}, {math.MinInt, 3 << 61, 0},
		{12, math.MinInt + 1, 16}, {math.MaxInt, math.MaxInt, 0}, {math.MinInt, math.MinInt, 0}, {1 << 40, 0, 0}, {0, 1 << 40, 0}, {-1 << 40, 0, 0}, {0, -1 << 40, 0}, {0, 1 << 18, 0}, {0, -1, 0}, {-1, -1, 0},
	}
}

// P11.1: where a row isn't there the run ends with its error, and nothing is stored; also where its address is beyond all numbers.
func TestFarRows(t *testing.T) {
	m := filled(t, 100, junk)
	want, loads, stores := m.Cells(), m.Loads(), m.Stores()
	for _, p := range far() {
		for name, program := range map[string]func(r *step.Run){
			"Row":  func(r *step.Run) { table.Row(r, p.b, p.d) },
			"Lay":  func(r *step.Run) { table.Lay(r, p.b, p.d, 1, 2, 3) },
			"Kill": func(r *step.Run) { table.Kill(r, p.b, p.d, 4) },
		} {
			if err := run(t, m, program); err != api.ErrBounds {
				t.Errorf("%s at %d, %d: %v", name, p.b, p.d, err)
			}
		}
	}
	wantCells(t, "behind all these", m, want)
	if m.Loads() != loads || m.Stores() != stores {
		t.Errorf("%d loads, %d stores", m.Loads()-loads, m.Stores()-stores)
	}
}

// P11.1: a cell that isn't there ends the run with its error, and what was stored ahead of it stays.
func TestMissingCells(t *testing.T) {
	for name, x := range map[string]struct {
		program func(r *step.Run)
		stored  map[int]uint32
	}{
		"Row: the birth":           {func(r *step.Run) { table.Row(r, 40, 0) }, nil},
		"Row: the birth, ahead":    {func(r *step.Run) { table.Row(r, -1, 0) }, nil},
		"Row: the id":              {func(r *step.Run) { table.Row(r, 39, 0) }, nil},
		"Row: the length":          {func(r *step.Run) { table.Row(r, 38, 0) }, nil},
		"Row: the tomb":            {func(r *step.Run) { table.Row(r, 37, 0) }, nil},
		"Lay: the id":              {func(r *step.Run) { table.Lay(r, 39, 0, 1, 2, 3) }, nil},
		"Lay: the length":          {func(r *step.Run) { table.Lay(r, 38, 0, 1, 2, 3) }, map[int]uint32{39: 1}},
		"Lay: the birth":           {func(r *step.Run) { table.Lay(r, -1, 0, 1, 2, 3) }, map[int]uint32{0: 1, 1: 2}},
		"Lay: the birth, behind d": {func(r *step.Run) { table.Lay(r, 7, -2, 1, 2, 3) }, map[int]uint32{0: 1, 1: 2}},
		"Kill":                     {func(r *step.Run) { table.Kill(r, 37, 0, 4) }, nil},
		"Kill: ahead of all":       {func(r *step.Run) { table.Kill(r, -4, 0, 4) }, nil},
		"Seen: the first birth":    {func(r *step.Run) { table.Seen(r, 40, 1, most) }, nil},
		"Seen: ahead of all":       {func(r *step.Run) { table.Seen(r, -1, 1, most) }, nil},
		"Seen: far out":            {func(r *step.Run) { table.Seen(r, math.MaxInt, math.MaxInt, most) }, nil},
		"Seen: far ahead":          {func(r *step.Run) { table.Seen(r, math.MinInt, math.MaxInt, most) }, nil},
		"Seen: the second birth":   {func(r *step.Run) { table.Seen(r, 36, 2, 1) }, nil},
		"Seen: too many rows":      {func(r *step.Run) { table.Seen(r, 0, math.MaxInt, most) }, nil},
		"Seen: a row without tomb": {func(r *step.Run) { table.Seen(r, 37, 1, most) }, nil},
		"Find: the first id":       {func(r *step.Run) { table.Find(r, 39, 1, 8) }, nil},
		"Find: the second id":      {func(r *step.Run) { table.Find(r, 35, 2, 8) }, nil},
		"Find: ahead of all":       {func(r *step.Run) { table.Find(r, -2, 5, 8) }, nil},
		"Find: far out":            {func(r *step.Run) { table.Find(r, math.MaxInt, math.MaxInt, 8) }, nil},
		"Find: far ahead":          {func(r *step.Run) { table.Find(r, math.MinInt, math.MaxInt, 8) }, nil},
		"Find: too many rows":      {func(r *step.Run) { table.Find(r, 0, math.MaxInt, 8) }, nil},
	} {
		m := filled(t, 40, junk)
		set(m, 36, row{1, 7, 9, 0})
		want := m.Cells()
		for a, v := range x.stored {
			want[a] = v
		}
		if err := run(t, m, x.program); err != api.ErrBounds {
			t.Errorf("%s: %v", name, err)
		}
		wantCells(t, name, m, want)
	}
}

// P11.1: what needn't be read needn't be there: rows behind the one that is found, and all behind a birth that is missing or above v.
func TestMissingCellsUnread(t *testing.T) {
	m := filled(t, 41, zero)
	set(m, 28, row{1, 5, 2, 0}, row{2, 6, 2, 0}, row{3, 7, 2, 0})
	one, two, three := api.Seen{Doc: 0, Id: 5, Length: 2}, api.Seen{Doc: 1, Id: 6, Length: 2}, api.Seen{Doc: 2, Id: 7, Length: 2}
	wantSeen(t, "Seen up to the last cell, which is no birth", seen(t, m, 28, math.MaxInt, most), one, two, three)
	m.Store(40, 4)
	wantSeen(t, "Seen up to the last cell, which is a later birth", seen(t, m, 28, math.MaxInt, 3), one, two, three)
	wantSeen(t, "Seen of as many as there are", seen(t, m, 28, 3, most), one, two, three)
	wantSeen(t, "Seen ahead of the last one", seen(t, m, 28, math.MaxInt, 2), one, two)
	wantDoc(t, "Find of the last one", find(t, m, 28, math.MaxInt, 7), 2)
	wantDoc(t, "Find of one that isn't there", find(t, m, 28, 3, 8), -1)
}

// P11.1: several parts in one program, Step by Step: each goes on with what those ahead of it read and stored.
func TestPartsInOneProgram(t *testing.T) {
	m := filled(t, 40, zero)
	var where [3]int
	var got [2][]api.Seen
	var last api.Row
	done(t, m, func(r *step.Run) {
		where = [3]int{}
		for d, id := range []uint32{7, 8, 9} {
			where[d] = table.Find(r, 9, d, id)
			table.Lay(r, 9, d, id, 5, uint32(d+1))
		}
		d := table.Find(r, 9, 3, 8)
		got[0] = table.Seen(r, 9, 3, 3)
		table.Kill(r, 9, d, 4)
		got[1] = table.Seen(r, 9, 3, 4)
		last = table.Row(r, 9, d)
	})
	one, two, three := api.Seen{Doc: 0, Id: 7, Length: 5}, api.Seen{Doc: 1, Id: 8, Length: 5}, api.Seen{Doc: 2, Id: 9, Length: 5}
	if where != [3]int{-1, -1, -1} {
		t.Errorf("found ahead of their Lays: %v", where)
	}
	wantSeen(t, "Seen ahead of the Kill", got[0], one, two, three)
	wantSeen(t, "Seen behind it", got[1], one, three)
	wantRow(t, "Row", last, api.Row{Birth: 2, Id: 8, Length: 5, Tomb: 4})
}

// P11.1: what Seen answers is new memory each time.
func TestSeenIsNew(t *testing.T) {
	m := filled(t, 40, zero)
	set(m, 0, row{1, 7, 3, 0}, row{2, 8, 4, 0})
	one := seen(t, m, 0, 2, 2)
	one[0].Id, one[1].Length = 99, 99
	_ = append(one[:1], api.Seen{Doc: 5})
	wantSeen(t, "Seen once more", seen(t, m, 0, 2, 2), api.Seen{Doc: 0, Id: 7, Length: 3}, api.Seen{Doc: 1, Id: 8, Length: 4})
}

// P11.1: runs that are nil, over, or outside of a Step: the parts end, and nothing is stored.
func TestNoRun(t *testing.T) {
	m := filled(t, 40, junk)
	want := m.Cells()
	for _, r := range []*step.Run{nil, step.New(nil), step.New(m)} {
		for _, n := range []int{math.MinInt, -1, 0, 1, 40, math.MaxInt} {
			for _, b := range []int{math.MinInt, -1, 0, 8, math.MaxInt} {
				table.Row(r, b, n)
				table.Lay(r, b, n, 1, 2, 3)
				table.Kill(r, b, n, 4)
				table.Seen(r, b, n, most)
				table.Find(r, b, n, 7)
			}
		}
	}
	wantCells(t, "behind parts without a run", m, want)
}
