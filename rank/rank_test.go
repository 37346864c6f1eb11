package rank_test

import (
	"math"
	"slices"
	"testing"

	"plover/api"
)

// list has of each score a document; its Docs and Ids rise from 1 on.
func list(scores ...float64) []api.Scored {
	var l []api.Scored
	for i, x := range scores {
		l = append(l, api.Scored{Doc: i + 1, Id: uint32(i + 1), Score: x})
	}
	return l
}

// hits are those of a list with these Ids, which are places from 1 on.
func hits(l []api.Scored, ids ...int) []api.Hit {
	var h []api.Hit
	for _, id := range ids {
		h = append(h, api.Hit{Id: uint32(id), Score: l[id-1].Score})
	}
	return h
}

// P20.1: the chapter's examples.
func TestExamples(t *testing.T) {
	l := list(0.5, nan, 0.5, 2)
	wantTop(t, l, 3, api.ByRank, hits(l, 4, 3, 1))
	wantTop(t, l, 3, api.ByNew, hits(l, 4, 3, 2))
}

// P20.1: by rank a greater score is better, whatever the Docs; each number is worth more than the one ahead of it.
func TestBetterByRank(t *testing.T) {
	for i, x := range rising {
		for j, y := range rising {
			for _, doc := range docs {
				if i != j {
					wantBetter(t, api.Scored{Doc: 1, Score: x}, api.Scored{Doc: doc, Score: y}, api.ByRank, i > j, i < j)
				}
			}
		}
	}
}

// P20.1: by rank, of scores at one place the greater Doc is better: all NaNs are at one, 0 and -0 too.
func TestBetterAtOnePlace(t *testing.T) {
	for i, d := range docs {
		for j, e := range docs {
			for _, x := range scores() {
				wantBetter(t, api.Scored{Doc: d, Score: x}, api.Scored{Doc: e, Score: x}, api.ByRank, i > j, i < j)
			}
			wantBetter(t, api.Scored{Doc: d, Score: 0}, api.Scored{Doc: e, Score: zero}, api.ByRank, i > j, i < j)
			for _, x := range nans {
				for _, y := range nans {
					wantBetter(t, api.Scored{Doc: d, Score: x}, api.Scored{Doc: e, Score: y}, api.ByRank, i > j, i < j)
				}
			}
		}
	}
}

// P20.1: by new, and by any order that is not by rank, the greater Doc is better, whatever the scores.
func TestBetterByNew(t *testing.T) {
	for _, order := range orders {
		if order == api.ByRank {
			continue
		}
		for i, d := range docs {
			for j, e := range docs {
				for _, x := range []float64{nan, deep, -1, zero, 0, 1, inf} {
					for _, y := range []float64{nan, deep, -1, zero, 0, 1, inf} {
						wantBetter(t, api.Scored{Doc: d, Score: x}, api.Scored{Doc: e, Score: y}, order, i > j, i < j)
					}
				}
			}
		}
	}
}

// pool has of each score and each Doc one, with drawn Ids.
func pool(d *dice) []api.Scored {
	var l []api.Scored
	for _, x := range scores() {
		for _, doc := range docs {
			l = append(l, api.Scored{Doc: doc, Id: uint32(pick(d, 0, 1, 7, d.roll(1<<31), 1<<32-1)), Score: x})
		}
	}
	return l
}

// P20.1: Better of each pair at each order, against the model, whatever the Ids; never each of two better than the other.
func TestPairs(t *testing.T) {
	d := dice(1)
	l := pool(&d)
	for _, order := range orders {
		for i, a := range l {
			for _, b := range l[i:] {
				there, back := modelBetter(a, b, order), modelBetter(b, a, order)
				if there && back {
					t.Fatalf("the model has %v and %v each better than the other at %d", a, b, order)
				}
				wantBetter(t, a, b, order, there, back)
			}
		}
	}
}

// P20.1: Top of no, one and two documents, at all limits and orders.
func TestFew(t *testing.T) {
	for _, order := range orders {
		for _, limit := range limits(0) {
			wantTop(t, nil, limit, order, nil)
			wantTop(t, []api.Scored{}, limit, order, nil)
		}
		for _, x := range scores() {
			l := list(x)
			for _, limit := range limits(1) {
				wantTop(t, l, limit, order, hits(l, []int{1}[:min(max(limit, 0), 1)]...))
			}
		}
		for _, x := range scores() {
			for _, y := range scores() {
				for _, limit := range limits(2) {
					wantModel(t, list(x, y), limit, order)
				}
			}
		}
	}
}

// P20.1: by rank the greater score is told first, of those at one place the greater Doc, of equal ones of these what stands ahead.
func TestByRank(t *testing.T) {
	l := []api.Scored{{Doc: 3, Id: 1, Score: 1}, {Doc: 9, Id: 2, Score: zero}, {Doc: 3, Id: 3, Score: 1}, {Doc: 9, Id: 4, Score: 0}, {Doc: 4, Id: 5, Score: 1}, {Doc: 2, Id: 6, Score: inf}, {Doc: 99, Id: 7, Score: -1}}
	all := []int{6, 5, 1, 3, 2, 4, 7}
	for _, limit := range limits(len(l)) {
		wantTop(t, l, limit, api.ByRank, hits(l, all[:min(max(limit, 0), len(l))]...))
	}
}

// P20.1: by new, and by any other order, the greater Doc is told first, of equal ones what stands ahead, whatever the scores; the scores are told all the same.
func TestByNew(t *testing.T) {
	l := []api.Scored{{Doc: 3, Id: 1, Score: 1}, {Doc: -1, Id: 2, Score: inf}, {Doc: 3, Id: 3, Score: nan}, {Doc: 0, Id: 4, Score: 7}, {Doc: 3, Id: 5, Score: 2}, {Doc: math.MaxInt, Id: 6, Score: zero}, {Doc: math.MinInt, Id: 7, Score: 9}}
	all := []int{6, 1, 3, 5, 4, 2, 7}
	for _, order := range orders {
		for _, limit := range limits(len(l)) {
			if order != api.ByRank {
				wantTop(t, l, limit, order, hits(l, all[:min(max(limit, 0), len(l))]...))
			}
		}
	}
}

// P20.1: an Id may stand there more than once, and of any size; it plays no part in what is best.
func TestIds(t *testing.T) {
	l := []api.Scored{{Doc: 1, Id: 1<<32 - 1, Score: 1}, {Doc: 2, Id: 0, Score: 1}, {Doc: 3, Id: 7, Score: 0.5}, {Doc: 4, Id: 7, Score: 2}, {Doc: 5, Id: 1 << 31, Score: 0.5}}
	wantTop(t, l, 9, api.ByRank, []api.Hit{{Id: 7, Score: 2}, {Id: 0, Score: 1}, {Id: 1<<32 - 1, Score: 1}, {Id: 1 << 31, Score: 0.5}, {Id: 7, Score: 0.5}})
	wantTop(t, l, 9, api.ByNew, []api.Hit{{Id: 1 << 31, Score: 0.5}, {Id: 7, Score: 2}, {Id: 7, Score: 0.5}, {Id: 0, Score: 1}, {Id: 1<<32 - 1, Score: 1}})
}

// P20.1: where none is better the list is told from its beginning on, however long it is.
func TestNoneBetter(t *testing.T) {
	for n := range 70 {
		for _, order := range orders {
			var l []api.Scored
			var ids []int
			for i := range n {
				x := 2.5
				if order != api.ByRank {
					x = float64(i * 31 % 17)
				}
				l = append(l, api.Scored{Doc: -4, Id: uint32(i + 1), Score: x})
				ids = append(ids, i+1)
			}
			for _, limit := range limits(n) {
				wantTop(t, l, limit, order, hits(l, ids[:min(max(limit, 0), n)]...))
			}
		}
	}
}

// P20.1: lists of nothing but NaNs, and of nothing but 0 and -0: told by their Docs, each with its own bits.
func TestAtOnePlace(t *testing.T) {
	d := dice(2)
	for range 300 {
		for _, some := range [][]float64{nans, {0, zero}} {
			var l []api.Scored
			for i := range d.roll(40) {
				l = append(l, api.Scored{Doc: d.roll(20) - 10, Id: uint32(i), Score: pick(&d, some...)})
			}
			for _, limit := range limits(len(l)) {
				wantModel(t, l, limit, api.ByRank)
			}
		}
	}
}

// eachList hands all lists of up to n out of some to a function, with Ids by their places.
func eachList(some []api.Scored, n int, hand func([]api.Scored)) {
	var grow func(l []api.Scored)
	grow = func(l []api.Scored) {
		hand(l)
		if len(l) == n {
			return
		}
		for _, s := range some {
			s.Id = uint32(len(l) + 1)
			grow(append(slices.Clip(l), s))
		}
	}
	grow(nil)
}

// P20.1: all lists of up to five out of few kinds, at all limits, against the model.
func TestAllSmall(t *testing.T) {
	some := []api.Scored{{Doc: 0, Score: nan}, {Doc: 1, Score: 0}, {Doc: 1, Score: zero}, {Doc: 0, Score: 0}, {Doc: 2, Score: -1}, {Doc: 1, Score: 1}}
	eachList(some, 5, func(l []api.Scored) {
		for limit := range len(l) + 2 {
			wantModel(t, l, limit, api.ByRank)
			wantModel(t, l, limit, api.ByNew)
		}
	})
}

// P20.1: all lists of up to eight of three kinds, whole: of these many are alike.
func TestAllAlike(t *testing.T) {
	some := []api.Scored{{Doc: 0, Score: 1}, {Doc: 0, Score: 2}, {Doc: 1, Score: 1}}
	eachList(some, 8, func(l []api.Scored) {
		wantModel(t, l, len(l), api.ByRank)
		wantModel(t, l, len(l), api.ByNew)
	})
}
