package table_test

import (
	"math"
	"slices"
	"testing"

	"plover/api"
	"plover/mem"
	"plover/step"
	"plover/table"
)

// dice are numbers that only look random: the same ones in each run.
type dice uint64

func (d *dice) roll(n int) int {
	*d = *d*6364136223846793005 + 1442695040888963407
	return int(uint64(*d) >> 33 % uint64(n))
}

// word is any number of a cell, often a small one or one near the greatest.
func (d *dice) word() uint32 {
	switch d.roll(4) {
	case 0:
		return uint32(d.roll(1<<31))<<1 | uint32(d.roll(2))
	case 1:
		return most - uint32(d.roll(3))
	}
	return uint32(d.roll(5))
}

// cells are those of a memory; asking for one that isn't there is noted.
type cells struct {
	l    []uint32
	miss bool
}

func (c *cells) at(a int) uint32 {
	if a < 0 || a >= len(c.l) {
		c.miss = true
		return 0
	}
	return c.l[a]
}

// sees is the chapter's word for a row and a version.
func sees(x row, v uint32) bool {
	return x[0] != 0 && x[0] <= v && (x[3] == 0 || x[3] > v)
}

// modelSeen goes by the chapter's words; false: it comes to a cell that isn't there.
func modelSeen(l []uint32, b, n int, v uint32) ([]api.Seen, bool) {
	c := &cells{l: l}
	var want []api.Seen
	for d := 0; d < n && !c.miss; d++ {
		x := row{c.at(b + 4*d)}
		if x[0] == 0 || x[0] > v {
			break
		}
		for k := 1; k < 4; k++ {
			x[k] = c.at(b + 4*d + k)
		}
		if sees(x, v) {
			want = append(want, x.seenOf(d))
		}
	}
	return want, !c.miss
}

// modelFind goes by the chapter's words; false: it comes to a cell that isn't there.
func modelFind(l []uint32, b, n int, id uint32) (int, bool) {
	c := &cells{l: l}
	for d := 0; d < n && !c.miss; d++ {
		if c.at(b+4*d+1) == id && !c.miss {
			return d, true
		}
	}
	return -1, !c.miss
}

// P11.1: in any memory Row, Seen and Find answer what the chapter says, and turn nothing; where a cell isn't there, the run tells.
func TestAnyMemory(t *testing.T) {
	many, found, none, bounds := 0, 0, 0, 0
	for seed := range 20000 {
		d := dice(seed)
		m := filled(t, 1+d.roll(60), func(int) uint32 { return d.word() })
		l, stores := m.Cells(), m.Stores()
		b, n, v := d.roll(len(l)+3)-2, d.roll(17)-1, d.word()

		want, ok := modelSeen(l, b, n, v)
		var got []api.Seen
		wantErr(t, ok, run(t, m, func(r *step.Run) { got = table.Seen(r, b, n, v) }))
		if ok {
			wantSeen(t, "Seen", got, want...)
		} else {
			bounds++
		}
		if len(want) > 1 {
			many++
		}

		at, ok := modelFind(l, b, n, v)
		var doc int
		wantErr(t, ok, run(t, m, func(r *step.Run) { doc = table.Find(r, b, n, v) }))
		if ok {
			wantDoc(t, "Find", doc, at)
		}
		if at > 0 {
			found++
		} else if ok && n > 0 {
			none++
		}

		c := &cells{l: l}
		a := b + 4*n
		x := api.Row{Birth: c.at(a), Id: c.at(a + 1), Length: c.at(a + 2), Tomb: c.at(a + 3)}
		var one api.Row
		wantErr(t, !c.miss, run(t, m, func(r *step.Run) { one = table.Row(r, b, n) }))
		if !c.miss {
			wantRow(t, "Row", one, x)
		}
		wantCells(t, "behind all these", m, l)
		if m.Stores() != stores {
			t.Fatal("a part that reads has stored")
		}
	}
	if min(many, found, none, bounds) < 300 {
		t.Errorf("several seen %d, found behind the first %d, not found %d, no cell %d", many, found, none, bounds)
	}
}

// wantErr holds the error of a run against whether all cells are there.
func wantErr(t *testing.T, ok bool, err api.Errno) {
	t.Helper()
	if ok && err != api.OK || !ok && err != api.ErrBounds {
		t.Fatalf("the run: %v; all cells are there: %v", err, ok)
	}
}

// deed is a row that is laid, or one that is killed.
type deed struct {
	kill bool
	d    int // the row
	id   uint32
	size uint32
}

// past is a row of deeds, each by the next version, and of each version what it sees: by what there was when it was the last one.
type past struct {
	b, n  int // where the rows begin, and how many there may be
	deeds []deed
	seen  [][]api.Seen
	laid  int
}

func newPast(b, n int) *past {
	return &past{b: b, n: n, seen: [][]api.Seen{nil}}
}

// do makes the next version.
func (p *past) do(x deed) {
	now := slices.Clone(p.seen[len(p.seen)-1])
	if x.kill {
		now = slices.DeleteFunc(now, func(s api.Seen) bool { return s.Doc == x.d })
	} else {
		now = append(now, api.Seen{Doc: x.d, Id: x.id, Length: int(x.size)})
		p.laid++
	}
	p.deeds, p.seen = append(p.deeds, x), append(p.seen, now)
}

// alive are the rows that may be killed.
func (p *past) alive() []api.Seen {
	return p.seen[len(p.seen)-1]
}

// any makes a version by dice; false: there is nothing left to be done.
func (p *past) any(d *dice) bool {
	alive := p.alive()
	switch {
	case p.laid == p.n && len(alive) == 0:
		return false
	case p.laid < p.n && (len(alive) == 0 || d.roll(5) < 3):
		p.do(deed{d: p.laid, id: d.word(), size: d.word()})
	default:
		p.do(deed{kill: true, d: alive[d.roll(len(alive))].Doc})
	}
	return true
}

// program is what the writer does for a version.
func (p *past) program(version int) func(r *step.Run) {
	x := p.deeds[version-1]
	return func(r *step.Run) {
		if x.kill {
			table.Kill(r, p.b, x.d, uint32(version))
			return
		}
		table.Lay(r, p.b, x.d, x.id, x.size, uint32(version))
	}
}

// cells are what the rows hold behind a version, by the chapter's words.
func (p *past) cells(version int) []uint32 {
	l := make([]uint32, 4*p.n)
	for i, x := range p.deeds[:version] {
		if x.kill {
			l[4*x.d+3] = uint32(i + 1)
		} else {
			copy(l[4*x.d:], []uint32{uint32(i + 1), x.id, x.size})
		}
	}
	return l
}

// P11.1 and P11.2: rows laid in order, and killed, each by the next version: behind each of them all cells, and Seen of every version up to it; versions that aren't made yet see what the last one does.
func TestVersions(t *testing.T) {
	for seed := range 60 {
		d := dice(seed)
		p := newPast(d.roll(20), 1+d.roll(12))
		m := filled(t, p.b+4*p.n+d.roll(3), zero)
		for p.any(&d) {
			last := len(p.deeds)
			done(t, m, p.program(last))
			want := make([]uint32, m.Len())
			copy(want[p.b:], p.cells(last))
			wantCells(t, "behind a version", m, want)
			for v, docs := range p.seen {
				wantSeen(t, "Seen of a version that was", seen(t, m, p.b, p.n, uint32(v)), docs...)
				wantSeen(t, "Seen of so many as were laid", seen(t, m, p.b, p.laid, uint32(v)), docs...)
			}
			for _, v := range []uint32{uint32(last + 1), uint32(last + 100), 1 << 31, most} {
				wantSeen(t, "Seen of one to come", seen(t, m, p.b, p.n, v), p.alive()...)
			}
		}
	}
}

// P11.2: the same where the versions begin far up, to the greatest one.
func TestVersionsAtTheEnd(t *testing.T) {
	const n = 5
	m := filled(t, 4*n, zero)
	var was [][]api.Seen
	var now []api.Seen
	v := uint32(most - 2*n + 1)
	for d := range n {
		lay(t, m, 0, d, uint32(d), 1, v)
		now = append(now, api.Seen{Doc: d, Id: uint32(d), Length: 1})
		was, v = append(was, slices.Clone(now)), v+1
	}
	for d := range n {
		kill(t, m, 0, d, v)
		now = now[1:]
		was, v = append(was, slices.Clone(now)), v+1
	}
	if v != 0 {
		t.Fatalf("the version %d", v)
	}
	for i, docs := range was {
		wantSeen(t, "Seen", seen(t, m, 0, n, uint32(most-2*n+1+i)), docs...)
	}
}

// all are all rows of so many deeds.
func all(p *past, left int, each func(p *past)) {
	if left == 0 {
		each(p)
		return
	}
	next := func(x deed) {
		q := &past{p.b, p.n, slices.Clone(p.deeds), slices.Clone(p.seen), p.laid}
		q.do(x)
		all(q, left-1, each)
	}
	if p.laid < p.n {
		next(deed{d: p.laid, id: uint32(70 + p.laid), size: uint32(left)})
	}
	for _, s := range p.alive() {
		next(deed{kill: true, d: s.Doc})
	}
}

// P11.3: of all rows of seven deeds, Seen of each version, begun when any later version is there, with some steps of the writer behind each of its own from some step on.
func TestUndisturbedByAll(t *testing.T) {
	const n, many = 4, 7
	whole := 0
	all(newPast(3, n), many, func(p *past) {
		whole++
		for begun := range many {
			m := filled(t, 3+4*n, zero)
			set(m, 3, rowsOf(p.cells(begun))...)
			for v := range begun + 1 {
				for from := range 10 {
					for _, speed := range []int{1, 2, 3, 3 * many} {
						turns(t, m.Cells(), p, begun, v, from, speed)
					}
				}
			}
		}
	})
	if whole < 100 {
		t.Errorf("only %d rows of deeds", whole)
	}
}

// rowsOf cuts cells into rows.
func rowsOf(l []uint32) []row {
	var rows []row
	for x := range slices.Chunk(l, 4) {
		rows = append(rows, row(x))
	}
	return rows
}

// turns is one Seen of a version, behind each of whose steps from some step on the writer makes so many of its own.
func turns(t *testing.T, l []uint32, p *past, begun, v, from, speed int) {
	t.Helper()
	m := filled(t, len(l), func(a int) uint32 { return l[a] })
	w := &writer{m: m, p: p, made: begun}
	var got []api.Seen
	r := step.New(m)
	for i := 0; !r.Step(func(r *step.Run) { got = table.Seen(r, p.b, p.n, uint32(v)) }); i++ {
		if i < from {
			continue
		}
		for range speed {
			w.pick()
		}
	}
	wantSeen(t, "Seen by turns with a writer", got, p.seen[v]...)
}

// writer makes the versions of a past, step by step; made are those that are over.
type writer struct {
	m    *mem.Mem
	p    *past
	made int
	r    *step.Run
}

// pick makes a step; false: nothing is left to be done.
func (w *writer) pick() bool {
	if w.r == nil {
		if w.made == len(w.p.deeds) {
			return false
		}
		w.r = step.New(w.m)
	}
	if w.r.Step(w.p.program(w.made + 1)) {
		w.made, w.r = w.made+1, nil
	}
	return true
}

// look is a Seen on its way.
type look struct {
	r     *step.Run
	v, n  int
	begun int // how many versions were made when it began
	got   []api.Seen
}

// begin is a Seen from now on, of one of the last versions, over all rows that may be or those that are there.
func (w *writer) begin(d *dice) *look {
	n := w.p.n
	if d.roll(2) == 0 {
		n = 0
		for _, x := range w.p.deeds[:w.made] {
			if !x.kill {
				n++
			}
		}
	}
	return &look{r: step.New(w.m), v: w.made - d.roll(min(w.made, 4)+1), n: n, begun: w.made}
}

// P11.3: many Seens at once, each of a version that is over when it begins, while the writer makes all of a long row of versions, step by step.
func TestUndisturbed(t *testing.T) {
	over, turned := 0, 0
	for seed := range 150 {
		d := dice(seed)
		p := newPast(d.roll(9), 1+d.roll(20))
		for p.any(&d) {
		}
		m := filled(t, p.b+4*p.n, zero)
		w := &writer{m: m, p: p}
		looks := map[int]*look{}
		for w.pick() {
			for range d.roll(12) {
				k := d.roll(6)
				if looks[k] == nil {
					looks[k] = w.begin(&d)
				}
				x := looks[k]
				if !x.r.Step(func(r *step.Run) { x.got = table.Seen(r, p.b, x.n, uint32(x.v)) }) {
					continue
				}
				wantSeen(t, "Seen by turns", x.got, p.seen[x.v]...)
				over++
				if x.begun < w.made {
					turned++
				}
				delete(looks, k)
			}
		}
	}
	if over < 3000 || turned < 1000 {
		t.Errorf("%d Seens, %d of them with versions made meanwhile", over, turned)
	}
}

// P11.3: at each step of a Lay and of a Kill a whole Seen of the version ahead, and one of theirs: a row is seen at once, with all its cells, and at once no more.
func TestSeenAtOnce(t *testing.T) {
	m := filled(t, 20, zero)
	lay(t, m, 4, 0, 7, 3, 1)
	one, two := api.Seen{Doc: 0, Id: 7, Length: 3}, api.Seen{Doc: 1, Id: most, Length: most}
	for _, x := range []struct {
		part        func(r *step.Run)
		v           uint32
		steps       int
		ahead, then []api.Seen
	}{
		{func(r *step.Run) { table.Lay(r, 4, 1, most, most, 2) }, 2, 3, []api.Seen{one}, []api.Seen{one, two}},
		{func(r *step.Run) { table.Kill(r, 4, 0, 3) }, 3, 1, []api.Seen{one, two}, []api.Seen{two}},
		{func(r *step.Run) { table.Kill(r, 4, 1, 4) }, 4, 1, []api.Seen{two}, nil},
	} {
		r := step.New(m)
		for i := range x.steps {
			wantSeen(t, "Seen ahead of the last step", seen(t, m, 4, 4, x.v), x.ahead...)
			wantSeen(t, "Seen of the version ahead", seen(t, m, 4, 4, x.v-1), x.ahead...)
			if over := r.Step(x.part); over != (i == x.steps-1) {
				t.Fatalf("Step %d of the version %d answers %v", i+1, x.v, over)
			}
		}
		wantSeen(t, "Seen behind the last step", seen(t, m, 4, 4, x.v), x.then...)
		wantSeen(t, "Seen of the version ahead, behind it", seen(t, m, 4, 4, x.v-1), x.ahead...)
	}
}

// P11.1: a Find over more rows than any memory has comes to its end, with the error of the run.
func TestFindWithoutEnd(t *testing.T) {
	for _, n := range []int{1, 4000, api.MaxCells} {
		m := filled(t, n, zero)
		for _, b := range []int{0, n - 2} {
			if err := run(t, m, func(r *step.Run) { table.Find(r, b, math.MaxInt, 5) }); err != api.ErrBounds {
				t.Errorf("Find from %d on in %d cells: %v", b, n, err)
			}
		}
	}
}
