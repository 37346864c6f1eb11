package rank_test

import (
	"math"
	"slices"
	"testing"

	"plover/api"
	"plover/rank"
)

// dice are numbers that only look random: the same ones in each run.
type dice uint64

func (d *dice) roll(n int) int {
	*d = *d*6364136223846793005 + 1442695040888963407
	return int(uint64(*d) >> 33 % uint64(n))
}

// pick is one of several.
func pick[T any](d *dice, l ...T) T { return l[d.roll(len(l))] }

// shuffle puts a list in a drawn order.
func shuffle[T any](d *dice, l []T) {
	for i := range l {
		j := d.roll(i + 1)
		l[i], l[j] = l[j], l[i]
	}
}

var (
	nan  = math.NaN()
	inf  = math.Inf(1)
	deep = math.Inf(-1)
	zero = math.Copysign(0, -1) // -0
)

const (
	most  = math.MaxFloat64
	least = math.SmallestNonzeroFloat64
)

// nans are NaNs of unlike bits.
var nans = []float64{
	nan, -nan,
	math.Float64frombits(0x7FF0000000000001), math.Float64frombits(0xFFF0000000000001),
	math.Float64frombits(0x7FF8000000000000), math.Float64frombits(0xFFF8000000000000),
	math.Float64frombits(0x7FF4000000000000), math.Float64frombits(0x7FFFFFFFFFFFFFFF),
	math.Float64frombits(0xFFFFFFFFFFFFFFFF), math.Float64frombits(0x7FF0000080000000),
}

// rising are numbers of which each stands ahead of the next one; many of them are next to one another.
var rising = []float64{
	nan, deep, -most, math.Nextafter(-most, 0), -0x1p53 - 2, -0x1p53, -2, math.Nextafter(-1, -2), -1, math.Nextafter(-1, 0), -0x1p-1022, -2 * least, -least,
	0, least, 2 * least, 0x1p-1022, 0.1, 0.5, math.Nextafter(1, 0), 1, math.Nextafter(1, 2), 2, 0x1p53, 0x1p53 + 2, math.Nextafter(most, 0), most, inf,
}

// scores are numbers at the ends and between them.
func scores() []float64 { return slices.Concat(rising, nans, []float64{zero}) }

// docs are documents' numbers, rising: the ends, those next to them, and those about 0.
var docs = []int{math.MinInt, math.MinInt + 1, -1 << 53, -2, -1, 0, 1, 2, 1 << 32, 1<<53 + 1, math.MaxInt - 1, math.MaxInt}

// orders are the two that have names, and some that have none.
var orders = []int{api.ByRank, api.ByNew, -1, 2, 3, math.MinInt, math.MaxInt}

// key rises as a number's place does: it is the number's bits, turned so that the order of whole numbers is the chapter's.
func key(x float64) uint64 {
	b := math.Float64bits(x)
	switch {
	case b<<1 > 0x7FF<<53: // a NaN
		return 0
	case b<<1 == 0:
		return 1 << 63
	case b>>63 == 1:
		return ^b
	}
	return b | 1<<63
}

// modelBetter is the chapter's Better.
func modelBetter(a, b api.Scored, order int) bool {
	if p, q := key(a.Score), key(b.Score); order == 0 && p != q {
		return p > q
	}
	return b.Doc < a.Doc
}

// modelTop takes the best of what is left again and again, of those of which none is better the first.
func modelTop(l []api.Scored, limit, order int) []api.Hit {
	left := slices.Clone(l)
	var hits []api.Hit
	for len(hits) < limit && len(left) > 0 {
		best := 0
		for i := range left {
			if modelBetter(left[i], left[best], order) {
				best = i
			}
		}
		hits = append(hits, api.Hit{Id: left[best].Id, Score: left[best].Score})
		left = slices.Delete(left, best, best+1)
	}
	return hits
}

// alike tells whether two are the same, bit for bit.
func alike(a, b api.Scored) bool {
	return a.Doc == b.Doc && a.Id == b.Id && math.Float64bits(a.Score) == math.Float64bits(b.Score)
}

// alikeHits tells whether two are the same, bit for bit.
func alikeHits(a, b api.Hit) bool {
	return a.Id == b.Id && math.Float64bits(a.Score) == math.Float64bits(b.Score)
}

// wantBetter holds Better of two, and of the two the other way round.
func wantBetter(t *testing.T, a, b api.Scored, order int, want, turned bool) {
	t.Helper()
	for range 2 {
		if got := rank.Better(a, b, order); got != want {
			t.Fatalf("Better(%v, %v, %d) = %v; want %v", a, b, order, got, want)
		}
		if got := rank.Better(b, a, order); got != turned {
			t.Fatalf("Better(%v, %v, %d) = %v; want %v", b, a, order, got, turned)
		}
	}
}

// wantTop holds Top of a list with room behind its end, which is left as it is; an answer is spoilt, to its spare room, so that one that shares memory with anything is told.
func wantTop(t *testing.T, l []api.Scored, limit, order int, want []api.Hit) {
	t.Helper()
	whole := slices.Concat(l, []api.Scored{{Doc: math.MaxInt, Id: 99, Score: inf}, {Doc: 5, Id: 98, Score: 1}})
	was := slices.Clone(whole)
	for range 2 {
		got := rank.Top(whole[:len(l)], limit, order)
		if !slices.EqualFunc(got, want, alikeHits) {
			t.Fatalf("Top(%v, %d, %d) = %v; want %v", l, limit, order, got, want)
		}
		got = got[:cap(got)]
		for i := range got {
			got[i] = api.Hit{Id: 77, Score: -7}
		}
		if !slices.EqualFunc(whole, was, alike) {
			t.Fatalf("Top(%v, %d, %d) leaves %v, and behind it %v", l, limit, order, whole[:len(l)], whole[len(l):])
		}
	}
}

// wantModel holds Top against the model.
func wantModel(t *testing.T, l []api.Scored, limit, order int) {
	t.Helper()
	wantTop(t, l, limit, order, modelTop(l, limit, order))
}

// limits are those about none and about n.
func limits(n int) []int {
	return []int{math.MinInt, math.MinInt + 1, -2, -1, 0, 1, 2, n / 2, n - 1, n, n + 1, 2*n + 1, api.MaxHits, math.MaxInt - 1, math.MaxInt}
}
