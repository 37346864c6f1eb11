package rank_test

import (
	"math"
	"slices"
	"testing"

	"plover/api"
	"plover/rank"
)

// drawn is a list of n out of so many scores and Docs; the Ids are the places.
func (d *dice) drawn(n int, scores []float64, docs int) []api.Scored {
	var l []api.Scored
	for i := range n {
		l = append(l, api.Scored{Doc: d.roll(docs) - docs/2, Id: uint32(i), Score: pick(d, scores...)})
	}
	return l
}

// some are few or many scores.
func (d *dice) some() []float64 {
	return pick(d, scores(), scores(), nans, []float64{0, zero}, []float64{1}, []float64{0.5, 1, 2}, []float64{nan, deep, 0, inf}, []float64{1, math.Nextafter(1, 2)})
}

// mixed is a drawn list, a short one or one of less than n, with many equal scores and Docs, and an order for it.
func (d *dice) mixed(n int) ([]api.Scored, int) {
	l := d.drawn(pick(d, d.roll(8), d.roll(n)), d.some(), pick(d, 1, 2, 5, 60, 1000))
	return l, pick(d, api.ByRank, api.ByRank, pick(d, orders...))
}

// any is a number of any bits.
func (d *dice) any() float64 {
	return math.Float64frombits(uint64(d.roll(1<<31))<<42 ^ uint64(d.roll(1<<31))<<21 ^ uint64(d.roll(1<<31)))
}

// P20.1: Top of drawn lists with many equal scores and equal Docs, at all limits, against the model.
func TestDrawn(t *testing.T) {
	d := dice(3)
	for range 1500 {
		l, order := d.mixed(70)
		for _, limit := range limits(len(l)) {
			wantModel(t, l, limit, order)
		}
	}
}

// P20.1: scores of any bits, and Docs of any size.
func TestDrawnAny(t *testing.T) {
	d := dice(4)
	for range 3000 {
		var l []api.Scored
		for range d.roll(30) {
			l = append(l, api.Scored{Doc: pick(&d, pick(&d, docs...), d.roll(3), math.MinInt+d.roll(1<<31)<<33), Id: uint32(d.roll(1 << 31)), Score: pick(&d, d.any(), pick(&d, scores()...))})
		}
		wantModel(t, l, d.roll(len(l)+2), api.ByRank)
		wantModel(t, l, d.roll(len(l)+2), pick(&d, orders...))
	}
}

// P20.1: Better of two with drawn scores, next to one another or of any bits, against the model.
func TestDrawnPairs(t *testing.T) {
	d := dice(5)
	for range 100000 {
		x := pick(&d, d.any(), pick(&d, scores()...))
		y := pick(&d, d.any(), x, math.Nextafter(x, inf), math.Nextafter(x, deep), -x, math.Float64frombits(math.Float64bits(x)^1<<d.roll(64)))
		a, b := api.Scored{Doc: pick(&d, docs...), Score: x}, api.Scored{Doc: pick(&d, docs...), Score: y}
		order := pick(&d, api.ByRank, api.ByRank, pick(&d, orders...))
		wantBetter(t, a, b, order, modelBetter(a, b, order), modelBetter(b, a, order))
	}
}

// P20.1: a list that is in order already, one that is so backwards, and ones that rise and fall.
func TestInOrder(t *testing.T) {
	for n := range 80 {
		for _, turn := range []int{1, 2, 3, 7, 79} {
			var up, down []api.Scored
			for i := range n {
				s := api.Scored{Doc: i * turn % 80, Id: uint32(i), Score: float64(i / turn)}
				up = append(up, s)
				down = slices.Insert(down, 0, s)
			}
			for _, limit := range []int{1, n / 3, n, n + 5} {
				wantModel(t, up, limit, api.ByRank)
				wantModel(t, down, limit, api.ByRank)
				wantModel(t, up, limit, api.ByNew)
				wantModel(t, down, limit, api.ByNew)
			}
		}
	}
}

// modelSorted is Top of all, as the library's way to put a list in order has it: of a long list much sooner than modelTop.
func modelSorted(l []api.Scored, order int) []api.Hit {
	sorted := slices.Clone(l)
	slices.SortStableFunc(sorted, func(a, b api.Scored) int {
		switch {
		case modelBetter(a, b, order):
			return -1
		case modelBetter(b, a, order):
			return 1
		}
		return 0
	})
	var hits []api.Hit
	for _, s := range sorted {
		hits = append(hits, api.Hit{Id: s.Id, Score: s.Score})
	}
	return hits
}

// P20.1: long lists end soon at any limit, drawn ones, and those of which each one is better, or worse, than all ahead of it.
func TestLong(t *testing.T) {
	d := dice(6)
	const n = 100000
	drawn := d.drawn(n, append(scores(), d.any(), d.any(), d.any()), n/4)
	var up []api.Scored
	for i := range n {
		up = append(up, api.Scored{Doc: i / 2, Id: uint32(i), Score: float64(i / 4)})
	}
	down := slices.Clone(up)
	slices.Reverse(down)
	for _, order := range []int{api.ByRank, api.ByNew} {
		for _, l := range [][]api.Scored{drawn, up, down} {
			want := modelSorted(l, order)
			for _, limit := range []int{0, 1, api.MaxHits, n / 2, n - 1, n, math.MaxInt} {
				got := rank.Top(l, limit, order)
				if !slices.EqualFunc(got, want[:min(limit, n)], alikeHits) {
					t.Errorf("a list of %d, limit %d, order %d: not the best ones in order", n, limit, order)
				}
			}
		}
	}
}
