package roll_test

import (
	"math"
	"strings"
	"testing"

	"plover/api"
	"plover/mem"
	"plover/roll"
	"plover/step"
	"plover/write"
)

// dice are numbers that only look random: the same ones in each run.
type dice uint64

func (d *dice) roll(n int) int {
	*d = *d*6364136223846793005 + 1442695040888963407
	return int(uint64(*d) >> 33 % uint64(n))
}

// word is one of few, so that many are alike; sometimes one of many.
func (d *dice) word() string {
	if d.roll(6) == 0 {
		return words(d.roll(100), 1)
	}
	l := strings.Fields("fox FOX fo foxes dog cat hare the a x \u03a3 \u03c2 \u0662 2 abcdefghijklmnopqrst abcdefghijklmnop abcdefghijklmno a1b mongoose \u00e9")
	return l[d.roll(len(l))]
}

// text is words with anything between them.
func (d *dice) text(n int) string {
	s := ""
	for range n {
		s += d.word() + []string{" ", ", ", "-", "\xff", "\n"}[d.roll(5)]
	}
	return s
}

// fields are those of a document, seldom too long ones.
func (d *dice) fields() []string {
	switch d.roll(16) {
	case 0:
		return make([]string, 4+d.roll(2))
	case 1:
		return []string{words(d.roll(60), 20+d.roll(24))}
	case 2:
		return []string{d.text(66)}
	case 3:
		return []string{times(d.word(), 1+d.roll(64))}
	}
	l := make([]string, d.roll(5))
	for i := range l {
		l[i] = d.text(d.roll(8))
	}
	return l
}

// id is one of few.
func (d *dice) id() uint32 {
	if d.roll(9) == 0 {
		return math.MaxUint32 - uint32(d.roll(2))
	}
	return uint32(d.roll(18))
}

// conf is a configuration in which this or that is scarce.
func (d *dice) conf(t *testing.T) api.Conf {
	t.Helper()
	c := api.Conf{Docs: 1 + d.roll(8), Terms: []int{64, 65, 100, 130}[d.roll(4)], Slabs: [4]int{400, 40, 20, 4}, Book: 3000, Room: 2000}
	if d.roll(3) == 0 {
		c.Slabs[d.roll(4)] = d.roll(10)
	}
	if d.roll(4) == 0 {
		c.Book = d.roll(400)
	}
	live := laid(t, c).Live
	c.Room = live + 2 + d.roll(5*live) + d.roll(800)
	return c
}

// op is an operation of one who has done what the model has.
func (d *dice) op(x *model) api.Op {
	switch n := d.roll(12); {
	case n < 7:
		return add(d.id(), d.fields()...)
	case n < 9:
		return del(d.id())
	}
	return seal()
}

// P16.1, P16.3 and P16.4: rows of Adds, Deletes and Rolls in drawn orders, in configurations of all kinds, held against the model behind each Step of a Roll, and behind each other call: errors, stores, the memory, the writer, what all that look find.
func TestRows(t *testing.T) {
	got := map[[2]int]int{}
	most := 0
	for seed := range 80 {
		d := dice(seed)
		b := newBench(t, d.conf(t))
		for range 24 {
			o := d.op(b.x)
			got[[2]int{o.Kind, int(b.do(o))}]++
		}
		most = max(most, len(b.w.Segs))
	}
	for _, x := range []struct {
		kind int
		err  api.Errno
	}{
		{api.Add, api.OK}, {api.Add, api.ErrDup}, {api.Add, api.ErrSegFull}, {api.Add, api.ErrFull}, {api.Add, api.ErrTooLong},
		{api.Delete, api.OK}, {api.Delete, api.ErrNoDoc}, {api.Roll, api.OK}, {api.Roll, api.ErrFull},
	} {
		if got[[2]int{x.kind, int(x.err)}] < 20 {
			t.Errorf("an operation of the kind %d answers %v %d times", x.kind, x.err, got[[2]int{x.kind, int(x.err)}])
		}
	}
	if len(got) != 9 || most < 6 {
		t.Errorf("answers %v, at most %d segments", got, most)
	}
}

// P16.1: a Roll that answers an error is put in somewhere, or taken out: the others answer, and store, what they do without it.
func TestRefusedAnywhere(t *testing.T) {
	refused := 0
	for seed := range 40 {
		d := dice(4000 + seed)
		c := d.conf(t)
		alone, among := newBench(t, c), newBench(t, c)
		for range 14 {
			if _, err := among.x.clone().roll(); err == api.ErrFull {
				among.wants(api.ErrFull, seal())
				refused++
			}
			o := d.op(alone.x)
			want := alone.do(o)
			if got := among.do(o); got != want {
				t.Fatalf("%+v among refused Rolls: %v, want %v", o, got, want)
			}
			wantWriter(t, "among refused Rolls", among.w, alone.w)
		}
		among.want = alone.m.Cells()
		among.wantCells("among refused Rolls")
	}
	if refused < 80 {
		t.Errorf("%d Rolls were refused", refused)
	}
}

// P16.1: others that store where nothing of the index lies, between the Steps, don't turn what a Roll stores and answers.
func TestBesideOthers(t *testing.T) {
	for seed := range 12 {
		d := dice(90 + seed)
		c := d.conf(t)
		c.Room += 1000
		b := newBench(t, c)
		for range 8 {
			b.do(d.op(b.x))
		}
		m, x := copied(t, b.m), &call{o: seal()}
		program, r := x.program(c, b.w), step.New(m)
		for i := uint32(1); !r.Step(program); i++ {
			m.Store(0, i) // the cell that is never used
			m.Load(d.roll(m.Len()))
		}
		m.Store(0, 0)
		b.all(seal())
		wantWriter(t, "beside others", x.w, b.w)
		b.m = m
		b.wantCells("beside others")
	}
}

// wildWriter is any, of any memory.
func (d *dice) wildWriter(cells int, p api.Plan) api.Writer {
	number := func() int {
		return []int{d.roll(cells), d.roll(cells), d.roll(9), d.roll(9), -1, cells, math.MaxInt, math.MinInt}[d.roll(8)]
	}
	w := api.Writer{Terms: number(), Version: uint32(number()), Used: [api.Pools]int{api.Room: d.roll(p.Size[api.Room] + 1)}}
	for range d.roll(4) {
		w.Segs = append(w.Segs, api.Seg{Addr: number(), Docs: number(), Sealed: d.roll(2) == 0})
	}
	if d.roll(4) > 0 {
		w.Segs = append(w.Segs, api.Seg{Addr: p.Base[api.Room] + d.roll(20), Docs: d.roll(5)})
	}
	for k := range w.Used {
		if d.roll(9) == 0 {
			w.Used[k] = number()
		}
	}
	return w
}

// P16.1: in a memory that no writer has written, and with a writer that nobody told, a Roll comes to its end.
func TestAnyEnd(t *testing.T) {
	got := map[api.Errno]int{}
	for seed := range 300 {
		d := dice(seed)
		c := api.Conf{Docs: 1 + d.roll(4), Terms: 64, Slabs: [4]int{d.roll(9), d.roll(4), d.roll(3), 0}, Book: d.roll(60), Room: 150 + d.roll(500)}
		p := laid(t, c)
		m, err := mem.New(p.Cells)
		if err != api.OK {
			t.Fatal(err)
		}
		for a := range p.Cells {
			switch {
			case a >= p.Base[api.Room] && d.roll(25) > 0: // few slots that aren't empty, as each has its own walk
			case d.roll(30) == 0:
				m.Store(a, math.MaxUint32)
			case d.roll(3) == 0:
				m.Store(a, uint32(d.roll(20)))
			default:
				m.Store(a, uint32(d.roll(p.Cells)))
			}
		}
		x := &call{o: seal()}
		r := step.New(m)
		program := x.program(c, d.wildWriter(p.Cells, p))
		for i := 0; !r.Step(program); i++ {
			if i > 60*(p.Cells+16)*16 {
				t.Fatalf("seed %d: no end", seed)
			}
		}
		if r.Err() == api.OK {
			got[x.err]++
		}
	}
	if got[api.ErrArg] < 20 || got[api.OK] < 5 || got[api.ErrFull] < 2 {
		t.Errorf("answers %v", got)
	}
}

// P16.1: a Roll is a program like others: called on end, without a Run between, it hangs on nothing but what it reads.
func TestReplayed(t *testing.T) {
	b := newBench(t, wide())
	b.all(add(1, "fox dog"), add(2, "dog", "cat"), del(1))
	r := step.New(b.m)
	calls := 0
	var w api.Writer
	var err api.Errno
	for over := false; !over; calls++ {
		over = r.Step(func(r *step.Run) { w, err = roll.Roll(r, b.c, b.w) })
	}
	if calls != r.Count() || err != api.OK {
		t.Fatalf("%d calls, %d accesses, %v", calls, r.Count(), err)
	}
	b.x.roll()
	wantWriter(t, "by Steps", w, b.x.writer())
	if write.Base(w.Segs[0]) != w.Segs[0].Addr+2 || write.Base(w.Segs[1]) != w.Segs[1].Addr+1 {
		t.Errorf("rows begin elsewhere: %+v", w.Segs)
	}
}
