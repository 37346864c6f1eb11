package rank_test

import (
	"cmp"
	"math"
	"slices"
	"testing"

	"plover/api"
	"plover/rank"
)

// wantBest holds that of what Top tells none is worse than one that it leaves out, nor than one behind it; it is a part of the list, and as many as the limit and the list let be. The list's Ids are its places.
func wantBest(t *testing.T, l []api.Scored, limit, order int) {
	t.Helper()
	told := rank.Top(l, limit, order)
	if want := min(max(limit, 0), len(l)); len(told) != want {
		t.Fatalf("Top(%v, %d, %d) tells %d; want %d", l, limit, order, len(told), want)
	}
	left := slices.Clone(l)
	for _, hit := range told {
		at := slices.IndexFunc(left, func(s api.Scored) bool { return alikeHits(hit, api.Hit{Id: s.Id, Score: s.Score}) })
		if at < 0 {
			t.Fatalf("Top(%v, %d, %d) = %v: %v isn't left of the list", l, limit, order, told, hit)
		}
		for i, s := range left {
			better, worse := rank.Better(s, left[at], order), rank.Better(left[at], s, order)
			if better || i < at && !worse {
				t.Fatalf("Top(%v, %d, %d) = %v: %v is told, with %v still left", l, limit, order, told, hit, s)
			}
		}
		left = slices.Delete(left, at, at+1)
	}
}

// P20.2: none that is left out is better than one that is told, at all limits and orders.
func TestBest(t *testing.T) {
	d := dice(11)
	for range 1000 {
		l, order := d.mixed(40)
		for _, limit := range limits(len(l)) {
			wantBest(t, l, limit, order)
		}
	}
}

// P20.2: the first ones of a greater limit are those of a lesser one: of each limit and the next one, so of any two.
func TestGreaterLimit(t *testing.T) {
	d := dice(12)
	for range 600 {
		l, order := d.mixed(50)
		var lesser []api.Hit
		for limit := -1; limit <= len(l)+2; limit++ {
			greater := rank.Top(l, limit, order)
			if len(greater) < len(lesser) || !slices.EqualFunc(greater[:len(lesser)], lesser, alikeHits) {
				t.Fatalf("Top(%v, %d, %d) = %v; one less: %v", l, limit, order, greater, lesser)
			}
			lesser = greater
		}
	}
}

// P20.2: "best" means something: what is better than what is better is better, and what is neither better nor worse than another one is so than just what that one is.
func TestAnyThree(t *testing.T) {
	var l []api.Scored
	for _, x := range append([]float64{zero, -nan}, rising...) {
		for _, doc := range []int{-1, 0, 1} {
			l = append(l, api.Scored{Doc: doc, Score: x})
		}
	}
	for _, order := range []int{api.ByRank, api.ByNew, -1} {
		table := make([][]bool, len(l))
		for i, a := range l {
			for _, b := range l {
				table[i] = append(table[i], rank.Better(a, b, order))
			}
		}
		for i := range l {
			for j := range l {
				for k := range l {
					there, on, far := table[i][j], table[j][k], table[i][k]
					if there && on && !far || !there && !on && far {
						t.Fatalf("at %d: of %v, %v: %v; of that, %v: %v; of the first, the last: %v", order, l[i], l[j], there, l[k], on, far)
					}
				}
			}
		}
	}
}

// unlike is a drawn list whose Docs are unlike; the Ids are not in the Docs' order.
func (d *dice) unlike(n int) []api.Scored {
	l := d.drawn(n, d.some(), 1)
	shuffle(d, l)
	doc := -n
	for i := range l {
		doc += 1 + d.roll(3)
		l[i].Doc = doc
	}
	if n > 1 && d.roll(4) == 0 {
		l[0].Doc, l[n-1].Doc = math.MinInt, math.MaxInt
	}
	shuffle(d, l)
	return l
}

// P20.3: all orders of up to six documents of unlike Docs: one answer.
func TestAllOrders(t *testing.T) {
	d := dice(13)
	for n := range 7 {
		for range 6 {
			l := d.unlike(n)
			want := modelTop(l, n, api.ByRank)
			newest := modelTop(l, n, api.ByNew)
			var place func(at int)
			place = func(at int) {
				if at == n {
					limit := d.roll(n + 1)
					wantTop(t, l, n, api.ByRank, want)
					wantTop(t, l, limit, api.ByRank, want[:limit])
					wantTop(t, l, limit, api.ByNew, newest[:limit])
				}
				for i := at; i < n; i++ {
					l[at], l[i] = l[i], l[at]
					place(at + 1)
					l[at], l[i] = l[i], l[at]
				}
			}
			place(0)
		}
	}
}

// P20.3: longer lists of unlike Docs, turned, backwards, and in drawn orders: one answer.
func TestAnyOrder(t *testing.T) {
	d := dice(14)
	for range 300 {
		n := 1 + d.roll(60)
		l := d.unlike(n)
		limit, order := pick(&d, 1, n/2, n-1, n, n+1, d.roll(n+1)), pick(&d, api.ByRank, api.ByRank, pick(&d, orders...))
		want := modelTop(l, limit, order)
		for by := range n {
			wantTop(t, slices.Concat(l[by:], l[:by]), limit, order, want)
		}
		slices.Reverse(l)
		wantTop(t, l, limit, order, want)
		for range 10 {
			shuffle(&d, l)
			wantTop(t, l, limit, order, want)
		}
		slices.SortFunc(l, func(a, b api.Scored) int { return cmp.Compare(a.Doc, b.Doc) })
		wantTop(t, l, limit, order, want)
		slices.Reverse(l)
		wantTop(t, l, limit, order, want)
	}
}
