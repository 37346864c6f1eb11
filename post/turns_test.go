package post_test

import (
	"math"
	"slices"
	"testing"

	"plover/api"
	"plover/mem"
	"plover/pool"
	"plover/post"
	"plover/step"
)

// dice are numbers that only look random: the same ones in each run.
type dice uint64

func (d *dice) roll(n int) int {
	*d = *d*6364136223846793005 + 1442695040888963407
	return int(uint64(*d) >> 33 % uint64(n))
}

// modelWalk goes by the chapter's words, of cells that are counted off.
func modelWalk(cells map[int]spot, l []uint32, tail int) []uint32 {
	var words []uint32
	for a := tail; cells[a].at > 0 && len(words) < len(l); {
		words = append(words, l[a])
		if cells[a-1].at > 0 {
			a--
		} else {
			a = int(l[a-1])
		}
	}
	return words
}

// P9.1: from any cell of any memory a walk reads what the chapter says.
func TestWalkAnything(t *testing.T) {
	for seed := range 60 {
		d := dice(seed)
		c := confs()[seed%2]
		p, cells := laid(t, c), spots(c)
		m := filled(t, p.Cells, func(a int) uint32 {
			switch d.roll(12) {
			case 0:
				return uint32(d.roll(math.MaxInt32)) << d.roll(2)
			case 1, 2, 3:
				return 0
			}
			return uint32(d.roll(p.Cells + 5))
		})
		l := m.Cells()
		for range 40 {
			tail := d.roll(p.Cells)
			wantWalk(t, "Walk", walk(t, m, p, tail), modelWalk(cells, l, tail))
		}
	}
}

// P9.1, P9.2 and P9.4: rows of Puts to several terms, up to where nothing fits any more: each tail, what is used, each cell; what is read from each tail; what Need and Fits told ahead.
func TestRows(t *testing.T) {
	for seed, c := range confs() {
		d := dice(seed)
		p := laid(t, c)
		m := filled(t, p.Cells, junk)
		want := m.Cells()
		var used counts
		terms := make([]chain, 5)
		for range 900 {
			x, w := &terms[d.roll(len(terms))], uint32(d.roll(90000))
			tail, before := x.tail(), used
			need := post.Need(p, tail, 1)
			list, ok := x.add(p, &used, w)
			if ok != pool.Fits(p, before, need) {
				t.Fatalf("the term has room: %v; Need of 1 from %d: %v, of %v used", ok, tail, need, before)
			}
			got := put(t, m, p, before, tail, w)
			if !ok {
				wantAnswer(t, "Put without room", got, answer{err: api.ErrFull})
				continue
			}
			wantAnswer(t, "Put", got, answer{x.tail(), used, api.OK})
			for _, s := range list {
				want[s.a] = s.v
			}
			for k := range need {
				if before[k]+need[k] != used[k] {
					t.Fatalf("Need of 1 from %d: %v, of %v used; then %v are", tail, need, before, used)
				}
			}
		}
		wantCells(t, "behind the row", m, want)
		for _, x := range terms {
			wantWalk(t, "Walk", walk(t, m, p, x.tail()), x.newest())
		}
	}
}

// P9.4: n Puts take just what Need says, from a tail at each place of each class.
func TestPutsTakeWhatNeedSays(t *testing.T) {
	c := api.Conf{Docs: 1, Terms: 64, Slabs: [4]int{2, 2, 2, 7}}
	p := laid(t, c)
	m := filled(t, p.Cells, zero)
	starts := []int{0}
	for a, s := range spots(c) {
		if s.at > 0 && (s.at < 4 || s.at > sizeAt(s.class)-4) {
			starts = append(starts, a)
		}
	}
	slices.Sort(starts)
	for _, start := range starts {
		tail, used := start, counts{}
		for n := 1; n <= 1200; n++ {
			got := put(t, m, p, used, tail, 1)
			if got.err != api.OK {
				t.Fatalf("from %d, the Put %d: %v", start, n, got.err)
			}
			tail, used = got.tail, got.used
			if need := post.Need(p, start, n); need != used {
				t.Fatalf("Need from %d of %d: %v; Puts took %v", start, n, need, used)
			}
		}
	}
}

// P9.4: where what Need says fits, no Put of so many is refused; where it doesn't, one is, and it has taken nothing.
func TestRoomForAll(t *testing.T) {
	p := laid(t, small())
	for seed := range 400 {
		d := dice(seed)
		m := filled(t, p.Cells, zero)
		used := counts{4 * d.roll(5), 16 * d.roll(4), 64 * d.roll(3), 256 * d.roll(2)}
		n := 1 + d.roll(400)
		fits := pool.Fits(p, used, post.Need(p, 0, n))
		tail, ok := 0, true
		for range n {
			got := put(t, m, p, used, tail, 1)
			if got.err != api.OK {
				ok = false
				break
			}
			tail, used = got.tail, got.used
		}
		if ok != fits {
			t.Fatalf("seed %d: %d words fit: %v; all were put: %v", seed, n, fits, ok)
		}
	}
}

// reader is a walk on its way, and what it must read.
type reader struct {
	run  *step.Run
	got  *[]uint32
	tail int
	want []uint32
}

// begin is a walk from a term's newest word.
func begin(m *mem.Mem, x *chain) *reader {
	return &reader{step.New(m), new([]uint32), x.tail(), x.newest()}
}

// pick makes a step of it: whether it is over.
func (x *reader) pick(p api.Plan) bool {
	return x.run.Step(func(r *step.Run) { *x.got = post.Walk(r, p, x.tail) })
}

// P9.3: while words are added to the same term and to others, Step by Step, walks that have begun read what was there when they began.
func TestUndisturbed(t *testing.T) {
	for seed := range 60 {
		d := dice(seed)
		p := laid(t, small())
		m := filled(t, p.Cells, zero)
		terms := make([]chain, 1+seed%3)
		readers := map[int]*reader{}
		var used counts
		walks := 0
		for w := range uint32(150) {
			x := &terms[d.roll(len(terms))]
			before, tail := used, x.tail()
			then := *x
			if _, ok := then.add(p, &used, w); !ok {
				continue
			}
			put := step.New(m)
			for over := false; !over; {
				for range d.roll(8) {
					k := d.roll(6)
					if readers[k] == nil {
						readers[k] = begin(m, &terms[d.roll(len(terms))])
					}
					if readers[k].pick(p) {
						wantWalk(t, "Walk", *readers[k].got, readers[k].want)
						delete(readers, k)
						walks++
					}
				}
				over = put.Step(func(r *step.Run) { post.Put(r, p, before, tail, w) })
			}
			*x = then
		}
		for _, x := range readers {
			for !x.pick(p) {
			}
			wantWalk(t, "Walk, in the end", *x.got, x.want)
		}
		if walks < 10 {
			t.Errorf("seed %d: only %d walks were over", seed, walks)
		}
	}
}

// P9.3: a walk behind each of whose Steps a whole word is added, to its own term and to another one, through all classes.
func TestUndisturbedByLongRows(t *testing.T) {
	p := laid(t, api.Conf{Docs: 1, Terms: 64, Slabs: [4]int{2, 2, 2, 12}})
	for _, n := range []int{1, 3, 4, 18, 19, 81, 82, 336, 337, 400} {
		m := filled(t, p.Cells, zero)
		var used counts
		var own, other chain
		add := func(x *chain, w uint32) {
			list, ok := x.add(p, &used, w)
			if !ok {
				t.Fatal("no room")
			}
			for _, s := range list {
				m.Store(s.a, s.v)
			}
		}
		for w := range n {
			add(&own, uint32(w))
		}
		x := begin(m, &own)
		for w := uint32(1000); !x.pick(p); w++ {
			add(&own, w)
			add(&other, w+5000)
		}
		wantWalk(t, "Walk", *x.got, x.want)
		wantWalk(t, "a later Walk", walk(t, m, p, own.tail()), own.newest())
	}
}
