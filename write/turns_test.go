package write_test

import (
	"math"
	"slices"
	"strings"
	"testing"

	"plover/api"
	"plover/step"
	"plover/table"
	"plover/write"
)

// dice are numbers that only look random: the same ones in each run.
type dice uint64

func (d *dice) roll(n int) int {
	*d = *d*6364136223846793005 + 1442695040888963407
	return int(uint64(*d) >> 33 % uint64(n))
}

// word is one of few, so that many are alike; sometimes one of many.
func (d *dice) word() string {
	if d.roll(6) == 0 {
		return words(d.roll(100), 1)
	}
	l := strings.Fields("fox FOX dog cat hare the a x \u03a3 \u03c2 \u0662 2 abcdefghijklmnopqrst abcdefghijklmnopzzz a1b mongoose")
	return l[d.roll(len(l))]
}

// text is words with anything between them.
func (d *dice) text(n int) string {
	s := ""
	for range n {
		s += d.word() + []string{" ", ", ", "-", "\xff", "\n"}[d.roll(5)]
	}
	return s
}

// fields are those of a document, seldom too many or too long ones.
func (d *dice) fields() []string {
	switch d.roll(20) {
	case 0:
		return make([]string, 5+d.roll(3))
	case 1:
		return []string{"fox", d.text(66 + d.roll(5))}
	case 2:
		return []string{words(d.roll(60), 40+d.roll(24))}
	case 3:
		return []string{times(d.word(), 1+d.roll(64))}
	}
	l := make([]string, d.roll(5))
	for i := range l {
		l[i] = d.text(d.roll(8))
	}
	return l
}

// id is one of few.
func (d *dice) id() uint32 {
	if d.roll(9) == 0 {
		return math.MaxUint32 - uint32(d.roll(2))
	}
	return uint32(d.roll(14))
}

// conf is a configuration in which this or that is scarce.
func (d *dice) conf(t *testing.T) api.Conf {
	t.Helper()
	c := api.Conf{Docs: 1 + d.roll(6), Terms: []int{64, 65, 100, 130}[d.roll(4)], Book: 5000, Room: 2000}
	for k := range 4 {
		c.Slabs[k] = []int{400, 40, 20, 4}[k]
		if d.roll(4) == 0 {
			c.Slabs[k] = d.roll(c.Slabs[k]/3 + 1)
		}
	}
	if d.roll(3) == 0 {
		c.Book = d.roll(400)
	}
	c.Room = laid(t, c).Live + 2 + d.roll(1500)
	return c
}

// op is an operation of one who has done what the model has.
func (d *dice) op(x *model) api.Op {
	switch n := d.roll(12); {
	case n < 8:
		return add(d.id(), d.fields()...)
	case n < 11:
		return del(d.id())
	}
	if docs := len(x.segs[len(x.segs)-1].rows); x.used[api.Room]+2+4*docs+x.p.Live+2+len(x.segs) <= x.p.Size[api.Room] {
		return roll()
	}
	return del(d.id())
}

// P12.1, P12.2 and P12.3: rows of calls of all kinds in configurations of all kinds, held against the model behind each Step: errors, stores, what is seen, the memory and the writer.
func TestRows(t *testing.T) {
	got := map[api.Errno]int{}
	segs, most := 0, 0
	for seed := range 90 {
		d := dice(seed)
		b := newBench(t, d.conf(t))
		for range 25 {
			o := d.op(b.x)
			err := b.do(o)
			if o.Kind != api.Roll {
				got[err]++
			}
		}
		segs += len(b.w.Segs)
		most = max(most, b.w.Terms)
	}
	for _, err := range []api.Errno{api.OK, api.ErrTooLong, api.ErrDup, api.ErrSegFull, api.ErrFull, api.ErrNoDoc} {
		if got[err] < 40 {
			t.Errorf("%v is answered %d times", err, got[err])
		}
	}
	if len(got) != 6 || segs < 180 || most < 64 {
		t.Errorf("answers %v, %d segments, at most %d terms", got, segs, most)
	}
}

// seenNow is what the version in the cell 1 sees, as layer 11 reads it: of each segment that the writer had ahead of a call, its rows up to the last one that may be.
func seenNow(t *testing.T, b *bench) [][]api.Seen {
	t.Helper()
	var all [][]api.Seen
	v := b.m.Cells()[1]
	for _, s := range b.w.Segs {
		n := s.Docs
		if !s.Sealed {
			n = b.c.Docs
		}
		var l []api.Seen
		for r := step.New(b.m); !r.Step(func(r *step.Run) { l = table.Seen(r, write.Base(s), n, v) }); {
		}
		all = append(all, l)
	}
	return all
}

func equalSeen(a, b [][]api.Seen) bool {
	return slices.EqualFunc(a, b, func(x, y []api.Seen) bool { return slices.Equal(x, y) })
}

// P12.2: behind each Step of a row of calls the version in the cell 1 sees what it saw when it was stored; a version turns at the last Step of its call alone, and goes up by one.
func TestAtOnce(t *testing.T) {
	stored := 0
	for seed := range 25 {
		d := dice(1000 + seed)
		b := newBench(t, d.conf(t))
		for range 12 {
			o := d.op(b.x)
			if o.Kind == api.Roll {
				b.do(o)
				continue
			}
			x := &call{o: o}
			b.x.do(o)
			program, r := x.program(b.c, b.w), step.New(b.m)
			was, saw := b.m.Cells()[1], seenNow(t, b)
			for over := false; !over; {
				over = r.Step(program)
				v, sees := b.m.Cells()[1], seenNow(t, b)
				switch {
				case v == was && !equalSeen(sees, saw):
					t.Fatalf("%+v: behind Step %d the version %d sees %+v, and saw %+v", o, r.Count(), v, sees, saw)
				case v != was && (!over || v != was+1 || x.err != api.OK):
					t.Fatalf("%+v: the version %d behind %d at Step %d: %v", o, v, was, r.Count(), x.err)
				case over && v == was && x.err == api.OK:
					t.Fatalf("%+v: no version", o)
				case v != was:
					stored++
				}
			}
			if x.err == api.OK {
				b.w = x.w
			}
			b.want = b.m.Cells()
		}
	}
	if stored < 60 {
		t.Errorf("%d versions", stored)
	}
}

// refused are operations that this one answers an error, of all kinds that it has now.
func (b *bench) refused(d *dice) []api.Op {
	long := times("fox", 65)
	try := []api.Op{
		add(50, make([]string, 5)...), add(50, strings.Repeat(" ", 513)), add(50, long), add(50, "the", long),
		add(50), add(50, "fox"), add(50, words(200, 64)), add(50, words(300, 30), words(300, 34)), add(50, times("fox", 64)), add(50, times("dog hare", 32)),
		del(50), del(51), add(d.id(), d.fields()...), del(d.id()),
	}
	for id := range uint32(14) {
		try = append(try, add(id, "fox new"), add(id), del(id))
	}
	return slices.DeleteFunc(try, func(o api.Op) bool {
		_, err := b.x.clone().do(o)
		return err == api.OK
	})
}

// P12.3: calls that answer an error are put in everywhere, or here and there: the others answer, and store, what they do without them; and none of them stores anything.
func TestRefusedAnywhere(t *testing.T) {
	kinds := map[api.Errno]int{}
	for seed := range 36 {
		d := dice(5000 + seed)
		c := d.conf(t)
		alone, among := newBench(t, c), newBench(t, c)
		for range 14 {
			o := d.op(alone.x)
			for _, x := range among.refused(&d) {
				if d.roll(4) > 0 && seed%3 > 0 {
					continue
				}
				stores := among.m.Stores()
				err := among.do(x)
				if err == api.OK || among.m.Stores() != stores {
					t.Fatalf("%+v: %v, with %d stores", x, err, among.m.Stores()-stores)
				}
				kinds[err]++
			}
			if got, want := among.do(o), alone.do(o); got != want {
				t.Fatalf("%+v among refused ones: %v, want %v", o, got, want)
			}
			wantWriter(t, "among refused ones", among.w, alone.w)
			wantCells(t, "among refused ones", among.m, alone.m.Cells())
		}
	}
	for _, err := range []api.Errno{api.ErrTooLong, api.ErrDup, api.ErrSegFull, api.ErrFull, api.ErrNoDoc} {
		if kinds[err] < 100 {
			t.Errorf("%v is answered %d times", err, kinds[err])
		}
	}
}

// P12.3: of a row of calls those that answered an error are taken out: the others do what they did.
func TestWithoutRefused(t *testing.T) {
	out := 0
	for seed := range 40 {
		d := dice(9000 + seed)
		c := d.conf(t)
		whole, rest := newBench(t, c), newBench(t, c)
		for range 20 {
			o := d.op(whole.x)
			if whole.do(o) != api.OK {
				out++
				continue
			}
			rest.all(o)
			wantWriter(t, "without refused ones", rest.w, whole.w)
			wantCells(t, "without refused ones", rest.m, whole.m.Cells())
		}
	}
	if out < 100 {
		t.Errorf("%d calls are taken out", out)
	}
}

// wildWriter is any, of any memory.
func (d *dice) wildWriter(cells int) api.Writer {
	number := func() int {
		return []int{d.roll(cells), d.roll(cells), d.roll(9), d.roll(9), -1, cells, math.MaxInt, math.MinInt}[d.roll(8)]
	}
	w := api.Writer{Terms: number(), Version: uint32(number())}
	for range d.roll(5) {
		w.Segs = append(w.Segs, api.Seg{Addr: number(), Docs: number(), Sealed: d.roll(2) == 0})
	}
	for k := range w.Used {
		if d.roll(6) == 0 {
			w.Used[k] = number()
		}
	}
	return w
}

// P12.1: in a memory that no writer has written, and with a writer that nobody told, calls come to their ends.
func TestAnyEnd(t *testing.T) {
	for seed := range 400 {
		d := dice(seed)
		c := api.Conf{Docs: 1 + d.roll(4), Terms: 64, Slabs: [4]int{d.roll(9), d.roll(4), d.roll(3), d.roll(2)}, Book: d.roll(60), Room: 150 + d.roll(50)}
		n := laid(t, c).Cells
		m := filled(t, n, func(int) uint32 {
			return []uint32{0, 0, 0, uint32(d.roll(n)), uint32(d.roll(n)), uint32(d.roll(20)), math.MaxUint32}[d.roll(7)]
		})
		for _, o := range []api.Op{add(uint32(d.roll(20)), d.fields()...), add(99, d.text(9)), del(uint32(d.roll(20)))} {
			x := &call{o: o}
			r := step.New(m)
			program := x.program(c, d.wildWriter(n))
			for i := 0; !r.Step(program); i++ {
				if i > 60*(n+16)*(2*api.MaxText) {
					t.Fatalf("seed %d: %+v: no end", seed, o)
				}
			}
		}
	}
}
