package find_test

import (
	"testing"

	"plover/api"
	"plover/find"
	"plover/image"
	"plover/mem"
	"plover/step"
)

// reading is a program of all three parts: it finds a key's list in an image, and reads it.
type reading struct {
	a, most int
	key     string
	docs    int
	list    int
	entries []api.Entry
}

func (x *reading) program(r *step.Run) {
	x.docs = find.Docs(r, x.a)
	x.list = find.Term(r, x.a, x.key)
	x.entries = nil
	if x.list != 0 {
		x.entries = find.List(r, x.list, x.most)
	}
}

// want holds what was read against the model.
func (x *reading) want(t *testing.T, w world) {
	t.Helper()
	list := modelTerm(w.c, w.addresses(t), x.key)
	var entries []api.Entry
	for _, l := range w.c.lists {
		if l.Key == x.key {
			entries = modelList(l.Entries, x.most)
		}
	}
	if x.docs != len(w.c.rows) || x.list != list || !same(x.entries, entries) {
		t.Fatalf("of %q below %d: %d rows, the list %d, %v; want %d, %d, %v", x.key, x.most, x.docs, x.list, x.entries, len(w.c.rows), list, entries)
	}
}

// P15.1, P15.2: all three in one program, one access a Step; what it reads is what each part by itself reads.
func TestOneProgram(t *testing.T) {
	for i := range 40 {
		d := dice(i)
		w := d.world(t, d.roll(900), d.contentOf(1+d.roll(20), d.keys(d.roll(12), 17)))
		cells := w.m.Cells()
		for _, key := range append(d.keys(3, 17), keysOf(w.c)...) {
			x := &reading{a: w.at, most: d.roll(20), key: key}
			n := done(t, w.m, x.program)
			x.want(t, w)
			apart := done(t, w.m, func(r *step.Run) { find.Docs(r, w.at) })
			apart += done(t, w.m, func(r *step.Run) { find.Term(r, w.at, key) })
			if x.list != 0 {
				apart += done(t, w.m, func(r *step.Run) { find.List(r, x.list, x.most) })
			}
			if n != apart {
				t.Fatalf("%d accesses, %d each by itself", n, apart)
			}
		}
		wantCells(t, w.m, cells)
	}
}

func keysOf(c content) []string {
	var l []string
	for _, x := range c.lists {
		l = append(l, x.Key)
	}
	return l
}

// P15.1: several by turns, while others turn the cells that no image's content hangs on.
func TestTurns(t *testing.T) {
	for i := range 60 {
		d := dice(500 + i)
		w := d.world(t, 40+d.roll(900), d.contentOf(1+d.roll(20), d.keys(1+d.roll(12), 9)))
		free := freeCells(w)
		var xs []*reading
		var runs []*step.Run
		for range 4 {
			x := &reading{a: w.at, most: d.roll(20), key: w.c.lists[d.roll(len(w.c.lists))].Key}
			xs, runs = append(xs, x), append(runs, step.New(w.m))
		}
		for left := len(xs); left > 0; {
			k := d.roll(len(xs))
			if !runs[k].Over() && runs[k].Step(xs[k].program) {
				if runs[k].Err() != api.OK {
					t.Fatal(runs[k].Err())
				}
				xs[k].want(t, w)
				left--
			}
			disturb(&d, w.m, free)
		}
	}
}

// freeCells are those that nothing of what is read hangs on: all but the image, without its rows, and but what the records tell of their keys.
func freeCells(w world) []int {
	needed := map[int]int{w.at: 1, w.at + 1: 1}
	rows := w.at + 2 + 4*len(w.c.rows)
	for a := rows; a < w.at+image.Size(w.c.rows, w.c.lists); a++ {
		needed[a] = 1
	}
	for _, l := range w.c.lists {
		for k := range 1 + len(cellsOf(l.Key)) {
			needed[l.Record+1+k] = 1
		}
	}
	var free []int
	for a := range w.m.Len() {
		if needed[a] == 0 {
			free = append(free, a)
		}
	}
	return free
}

// disturb turns a few cells.
func disturb(d *dice, m *mem.Mem, free []int) {
	for range 3 {
		m.Store(free[d.roll(len(free))], d.any())
	}
}
