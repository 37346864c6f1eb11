package pool_test

import (
	"math"
	"testing"

	"plover/api"
	"plover/pool"
)

type counts = [api.Pools]int

// only is a count of one pool, the others' being 0.
func only(k, n int) counts {
	l := counts{}
	l[k] = n
	return l
}

// far are numbers that are no counts, no addresses and no pools.
var far = []int{-1, -2, math.MinInt, math.MinInt + 1, math.MaxInt, math.MaxInt - 1, math.MinInt32, math.MaxInt32}

// small is the configuration of the chapter's example.
func small() api.Conf {
	return api.Conf{Docs: 1, Terms: 64, Slabs: [4]int{1, 1, 1, 1}, Book: 10, Room: 300}
}

// confs are configurations that may be, with pools of many sizes, empty ones among them.
func confs() []api.Conf {
	return []api.Conf{
		small(),
		{Docs: 1, Terms: 64},
		{Docs: 64, Terms: 256, Room: 1},
		{Docs: 2, Terms: 65, Slabs: [4]int{3, 0, 2, 0}, Book: 1},
		{Docs: 3, Terms: 127, Slabs: [4]int{0, 2, 0, 1}, Room: 7},
		{Docs: 4, Terms: 128, Slabs: [4]int{0, 0, 0, 2}, Book: 5, Room: 3},
		{Docs: 5, Terms: 200, Slabs: [4]int{9, 5, 0, 3}, Book: 100, Room: 900},
		{Docs: 64, Terms: 256, Slabs: [4]int{512, 512, 512, 64}, Book: 2500, Room: 3000},
	}
}

// laid is a plan that Lay must give.
func laid(t *testing.T, c api.Conf) api.Plan {
	t.Helper()
	p, err := pool.Lay(c)
	if err != api.OK {
		t.Fatalf("Lay(%+v) = %v", c, err)
	}
	return p
}

// wantTake holds an answer of Take against the one wanted, which beside an error is nothing.
func wantTake(t *testing.T, p api.Plan, used counts, k, n, a int, then counts, err api.Errno) {
	t.Helper()
	if ga, gu, ge := pool.Take(p, used, k, n); ga != a || gu != then || ge != err {
		t.Errorf("Take(%v, %d, %d) = %d, %v, %v; want %d, %v, %v", used, k, n, ga, gu, ge, a, then, err)
	}
}

// wantClass holds an answer of Class against the one wanted.
func wantClass(t *testing.T, p api.Plan, a, k, at int) {
	t.Helper()
	if gk, ga := pool.Class(p, a); gk != k || ga != at {
		t.Errorf("Class(%d) = %d, %d; want %d, %d", a, gk, ga, k, at)
	}
}

// refused holds that Lay refuses a configuration, with no plan.
func refused(t *testing.T, c api.Conf) {
	t.Helper()
	if p, err := pool.Lay(c); err != api.ErrArg || p != (api.Plan{}) {
		t.Errorf("Lay(%+v) = %+v, %v; want no plan, ErrArg", c, p, err)
	}
}

// P2.1: the chapter's example.
func TestExample(t *testing.T) {
	p := laid(t, small())
	want := api.Plan{
		Base:  counts{3, 7, 23, 87, 343, 353},
		Size:  counts{4, 16, 64, 256, 10, 300},
		Cells: 653, Slots: 128, Live: 133,
	}
	if p != want {
		t.Fatalf("Lay = %+v, want %+v", p, want)
	}
	wantTake(t, p, counts{}, 1, 16, 7, counts{1: 16}, api.OK)
	wantTake(t, p, counts{1: 16}, 1, 16, 0, counts{}, api.ErrFull)
}

// P2.1: a plan without anything in its pools, and one of all that may be.
func TestLayEnds(t *testing.T) {
	none := laid(t, api.Conf{Docs: 1, Terms: 64})
	if want := (api.Plan{Base: counts{3, 3, 3, 3, 3, 3}, Cells: 3, Slots: 128, Live: 133}); none != want {
		t.Errorf("Lay = %+v, want %+v", none, want)
	}
	full := laid(t, api.Conf{Docs: 64, Terms: 256, Slabs: [4]int{512, 512, 512, 64}, Book: 2500, Room: 3000})
	want := api.Plan{
		Base:  counts{3, 2051, 10243, 43011, 59395, 61895},
		Size:  counts{2048, 8192, 32768, 16384, 2500, 3000},
		Cells: 64895, Slots: 512, Live: 769,
	}
	if full != want {
		t.Errorf("Lay = %+v, want %+v", full, want)
	}
}

// P2.1: each number of a configuration at its limits, and beyond them.
func TestLayLimits(t *testing.T) {
	for name, x := range map[string]struct {
		set       func(c *api.Conf, n int)
		low, high int
	}{
		"Docs":  {func(c *api.Conf, n int) { c.Docs = n }, 1, 64},
		"Terms": {func(c *api.Conf, n int) { c.Terms = n }, 64, 256},
		"S0":    {func(c *api.Conf, n int) { c.Slabs[0] = n }, 0, 512},
		"S1":    {func(c *api.Conf, n int) { c.Slabs[1] = n }, 0, 512},
		"S2":    {func(c *api.Conf, n int) { c.Slabs[2] = n }, 0, 512},
	} {
		for _, n := range []int{x.low, x.low + 1, (x.low + x.high) / 2, x.high - 1, x.high} {
			c := small()
			x.set(&c, n)
			if _, err := pool.Lay(c); err != api.OK {
				t.Errorf("%s %d: %v", name, n, err)
			}
		}
		for _, n := range append([]int{x.low - 1, x.high + 1, 2 * x.high}, far...) {
			c := small()
			x.set(&c, n)
			refused(t, c)
		}
	}
}

// P2.1: all cells together may be MaxCells and no more, whichever pool has them; numbers whose sum or product overflows don't pass.
func TestLayCells(t *testing.T) {
	most := api.MaxCells - 3
	for _, x := range []struct {
		c    api.Conf
		more func(c *api.Conf)
	}{
		{api.Conf{Docs: 1, Terms: 64, Book: most}, func(c *api.Conf) { c.Book++ }},
		{api.Conf{Docs: 1, Terms: 64, Room: most}, func(c *api.Conf) { c.Room++ }},
		{api.Conf{Docs: 1, Terms: 64, Room: most}, func(c *api.Conf) { c.Book++ }},
		{api.Conf{Docs: 1, Terms: 64, Slabs: [4]int{255, 255, 255, 172}, Room: most - 255*84 - 172*256}, func(c *api.Conf) { c.Room++ }},
		{api.Conf{Docs: 1, Terms: 64, Slabs: [4]int{0, 0, 0, 255}, Book: 100, Room: 153}, func(c *api.Conf) { c.Slabs[0]++ }},
		{api.Conf{Docs: 64, Terms: 256, Slabs: [4]int{0, 0, 0, 255}, Book: 253}, func(c *api.Conf) { c.Slabs[3]++ }},
	} {
		if p := laid(t, x.c); p.Cells != api.MaxCells {
			t.Errorf("Lay(%+v): %d cells", x.c, p.Cells)
		}
		x.more(&x.c)
		refused(t, x.c)
	}
	refused(t, api.Conf{Docs: 1, Terms: 64, Slabs: [4]int{3: 512}})
	refused(t, api.Conf{Docs: 1, Terms: 64, Slabs: [4]int{512, 512, 512, 512}})
	for _, n := range append([]int{api.MaxCells, api.MaxCells + 1}, far...) {
		refused(t, api.Conf{Docs: 1, Terms: 64, Book: n})
		refused(t, api.Conf{Docs: 1, Terms: 64, Room: n})
		refused(t, api.Conf{Docs: 1, Terms: 64, Slabs: [4]int{3: n}})
	}
	refused(t, api.Conf{Docs: 1, Terms: 64, Book: math.MaxInt, Room: math.MinInt})
	refused(t, api.Conf{Docs: 1, Terms: 64, Book: 5, Room: -5})
	refused(t, api.Conf{Docs: 1, Terms: 64, Slabs: [4]int{1 << 62, 1 << 60, 1 << 58, 1 << 56}})
	refused(t, api.Conf{})
}

// P2.1: K and B may be any numbers, and are nothing to the plan.
func TestLayAnyScores(t *testing.T) {
	want := laid(t, small())
	for _, x := range []float64{1.2, -3, math.NaN(), math.Inf(1), math.Inf(-1), math.Copysign(0, -1), math.MaxFloat64} {
		c := small()
		c.K, c.B = x, -x
		if p := laid(t, c); p != want {
			t.Errorf("K %v: %+v", x, p)
		}
	}
}

// P2.1: Slots is the least power of two above Terms, and Live hangs on it and on Docs.
func TestLayLive(t *testing.T) {
	for terms := api.MinTerms; terms <= api.MaxTerms; terms++ {
		want := 128
		if terms >= 128 {
			want = 256
		}
		if terms >= 256 {
			want = 512
		}
		for _, docs := range []int{1, 2, 33, 64} {
			p := laid(t, api.Conf{Docs: docs, Terms: terms, Room: 5})
			if p.Slots != want || p.Live != 1+4*docs+want {
				t.Errorf("Docs %d, Terms %d: Slots %d, Live %d", docs, terms, p.Slots, p.Live)
			}
		}
	}
}

// P2.1: the slabs of the four classes; no other class has any.
func TestSlab(t *testing.T) {
	for k, want := range []int{4, 16, 64, 256, 0, 0, 0} {
		if n := pool.Slab(k); n != want {
			t.Errorf("Slab(%d) = %d, want %d", k, n, want)
		}
	}
	for _, k := range append([]int{64, 1 << 20}, far...) {
		if n := pool.Slab(k); n != 0 {
			t.Errorf("Slab(%d) = %d, want 0", k, n)
		}
	}
}

// P2.1: Fits at the end of each pool, beyond it, and with numbers below 0 and such whose sum overflows.
func TestFits(t *testing.T) {
	for _, c := range confs() {
		p := laid(t, c)
		if !pool.Fits(p, counts{}, counts{}) || !pool.Fits(p, counts{}, p.Size) || !pool.Fits(p, p.Size, counts{}) {
			t.Errorf("%+v: what fits is refused", c)
		}
		for k, size := range p.Size {
			for _, used := range []int{0, 1, size / 2, size - 1, size, size + 1, -1, math.MinInt, math.MaxInt} {
				for _, more := range []int{0, 1, size - used - 1, size - used, size - used + 1, -1, -used, math.MinInt, math.MaxInt} {
					u, m := p.Size, counts{}
					u[k], m[k] = used, more
					want := used >= 0 && more >= 0 && used <= size && more <= size-used
					if pool.Fits(p, u, m) != want {
						t.Errorf("Fits of pool %d of %d: used %d, more %d, want %v", k, size, used, more, want)
					}
				}
			}
		}
	}
}

// P2.1: Take at the end of each pool: as much as is left, one more, and far more.
func TestTakeEnds(t *testing.T) {
	for _, c := range confs() {
		p := laid(t, c)
		for k, size := range p.Size {
			for _, used := range []int{0, 1, size / 2, size - 1, size} {
				if used < 0 || used > size {
					continue
				}
				u := counts{11, 12, 13, 14, 15, 16}
				u[k] = used
				for _, n := range []int{1, size - used - 1, size - used} {
					if n >= 1 && n <= size-used {
						then := u
						then[k] = used + n
						wantTake(t, p, u, k, n, p.Base[k]+used, then, api.OK)
					}
				}
				for _, n := range []int{size - used + 1, size + 1, math.MaxInt - used, math.MaxInt} {
					wantTake(t, p, u, k, n, 0, counts{}, api.ErrFull)
				}
			}
		}
	}
}

// P2.1: Take refuses what is no pool, no count, and no use of that pool, also where the pool is full; what is used of other pools plays no part.
func TestTakeRefuses(t *testing.T) {
	for _, c := range confs() {
		p := laid(t, c)
		for _, k := range append([]int{api.Pools, api.Pools + 1}, far...) {
			wantTake(t, p, counts{}, k, 1, 0, counts{}, api.ErrArg)
			wantTake(t, p, p.Size, k, 1, 0, counts{}, api.ErrArg)
		}
		for k, size := range p.Size {
			for _, n := range []int{0, -1, -size, math.MinInt, math.MinInt + 1} {
				wantTake(t, p, counts{}, k, n, 0, counts{}, api.ErrArg)
				wantTake(t, p, p.Size, k, n, 0, counts{}, api.ErrArg)
			}
			for _, used := range append([]int{size + 1}, far...) {
				for _, n := range []int{1, 2, math.MaxInt} {
					wantTake(t, p, only(k, used), k, n, 0, counts{}, api.ErrArg)
				}
			}
			if size > 0 {
				u := counts{-1, math.MaxInt, math.MinInt, -7, math.MaxInt, -1}
				u[k] = 0
				then := u
				then[k] = 1
				wantTake(t, p, u, k, 1, p.Base[k], then, api.OK)
			}
		}
	}
}

// P2.1: the class of every cell and its place, slab by slab; cells that lie in none.
func TestClass(t *testing.T) {
	for _, c := range confs() {
		p := laid(t, c)
		a := 3
		for k, n := range c.Slabs {
			for range n {
				for at := range pool.Slab(k) {
					wantClass(t, p, a, k, at)
					a++
				}
			}
		}
		for ; a <= p.Cells; a++ {
			wantClass(t, p, a, -1, 0)
		}
		for _, a := range append([]int{0, 1, 2, api.MaxCells, api.MaxCells + 1}, far...) {
			wantClass(t, p, a, -1, 0)
		}
	}
}

// P2.1: with plans that aren't Lay's the calls end.
func TestAnyPlan(t *testing.T) {
	edges := []int{0, 1, -1, math.MinInt, math.MaxInt}
	for _, base := range edges {
		for _, size := range edges {
			p := api.Plan{}
			for k := range api.Pools {
				p.Base[k], p.Size[k] = base, size
			}
			for _, n := range edges {
				for k := range api.Pools {
					pool.Take(p, only(k, n), k, 1)
					pool.Take(p, only(k, n), k, math.MaxInt)
					pool.Fits(p, only(k, n), only(k, base))
				}
				pool.Class(p, n)
			}
		}
	}
}

// P2.1: what is handed in is left as it is, and a call answers the same again.
func TestLeftAsItIs(t *testing.T) {
	c := small()
	p := laid(t, c)
	q, used, more := p, counts{1: 3}, counts{1: 2}
	for range 2 {
		wantTake(t, p, used, 1, 5, 10, counts{1: 8}, api.OK)
		wantTake(t, p, used, 1, 99, 0, counts{}, api.ErrFull)
		pool.Fits(p, used, more)
		pool.Class(p, 9)
		if laid(t, c) != p || c != small() || p != q || used != (counts{1: 3}) || more != (counts{1: 2}) {
			t.Error("a call has changed what it was handed", c, p, used, more)
		}
	}
}

// P2.2: each cell but 0, 1 and 2 lies in just one pool, each pool has the cells of its configuration, in the order of the pools.
func TestApart(t *testing.T) {
	for _, c := range confs() {
		p := laid(t, c)
		owners := make([]int, p.Cells)
		for k, size := range p.Size {
			want := [...]int{4 * c.Slabs[0], 16 * c.Slabs[1], 64 * c.Slabs[2], 256 * c.Slabs[3], c.Book, c.Room}[k]
			if size != want {
				t.Errorf("%+v: pool %d has %d cells, want %d", c, k, size, want)
			}
			for i := range size {
				owners[p.Base[k]+i]++
			}
		}
		for a, n := range owners {
			if want := min(a/3, 1); n != want {
				t.Fatalf("%+v: the cell %d lies in %d pools, want %d", c, a, n, want)
			}
		}
		for k := 1; k < api.Pools; k++ {
			if p.Base[k] < p.Base[k-1] {
				t.Errorf("%+v: pool %d lies ahead of pool %d", c, k, k-1)
			}
		}
	}
}

// dice are numbers that are the same in each run of the tests.
type dice uint32

func (d *dice) below(n int) int {
	*d = *d*1664525 + 1013904223
	return int(*d>>8) % n
}

// P2.2 and P2.3: rows of takes of all pools: what is taken lies in its pool and was not taken before; Take refuses just what Fits does.
func TestRowOfTakes(t *testing.T) {
	for i, c := range confs() {
		p := laid(t, c)
		d := dice(i)
		taken := make([]bool, p.Cells)
		used := counts{}
		for range 5000 {
			k := d.below(api.Pools)
			n := 1 + d.below(min(p.Size[k]+2, 40))
			fits := pool.Fits(p, used, only(k, n))
			a, then, err := pool.Take(p, used, k, n)
			if fits != (err == api.OK) || fits == (err == api.ErrFull) {
				t.Fatalf("%v: %d of pool %d: Fits %v, Take %v", used, n, k, fits, err)
			}
			if !fits {
				continue
			}
			if a < p.Base[k] || a+n > p.Base[k]+p.Size[k] {
				t.Fatalf("%v: %d of pool %d at %d: outside of it", used, n, k, a)
			}
			for x := a; x < a+n; x++ {
				if taken[x] {
					t.Fatalf("%v: the cell %d is taken again", used, x)
				}
				taken[x] = true
			}
			used = then
		}
	}
}

// P2.3: where Fits allows counts of all pools together, taking them pool by pool, cut anyhow, is never refused; and one more of a pool is, when all is taken.
func TestAsLongAsThereIsRoom(t *testing.T) {
	for i, c := range confs() {
		p := laid(t, c)
		d := dice(100 + i)
		for range 50 {
			used, more := counts{}, counts{}
			for k, size := range p.Size {
				used[k] = d.below(size + 1)
				more[k] = d.below(size - used[k] + 1)
			}
			if !pool.Fits(p, used, more) {
				t.Fatalf("Fits(%v, %v) is false", used, more)
			}
			want := used
			for k := range api.Pools {
				want[k] += more[k]
				for more[k] > 0 {
					n := 1 + d.below(more[k])
					_, then, err := pool.Take(p, used, k, n)
					if err != api.OK {
						t.Fatalf("Take(%v, %d, %d) = %v", used, k, n, err)
					}
					used = then
					more[k] -= n
				}
			}
			if used != want {
				t.Fatalf("used %v, want %v", used, want)
			}
		}
		for k := range api.Pools {
			wantTake(t, p, p.Size, k, 1, 0, counts{}, api.ErrFull)
		}
	}
}
