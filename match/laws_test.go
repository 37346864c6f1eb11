package match_test

import (
	"slices"
	"testing"

	"plover/api"
	"plover/match"
)

// wantSame holds two trees against each other that find the same of the same.
func wantSame(t *testing.T, a, b api.Node, all []int, ls [][]api.Found) {
	t.Helper()
	x, y := match.Eval(a, all, ls), match.Eval(b, all, ls)
	if !slices.Equal(x, y) {
		t.Fatalf("of %v, %v: %v finds %v, %v finds %v", all, ls, a, x, b, y)
	}
}

// each is a node of a kind of the Nots of kids.
func each(kind int, kids []api.Node) api.Node {
	n := node(kind)
	for _, kid := range kids {
		n.Kids = append(n.Kids, not(kid))
	}
	return n
}

// P18.2: a Not of a Not finds what its kid finds; a Not of an And what the Or of its kids' Nots finds, a Not of an Or what the And of these finds; wherever they stand.
func TestSets(t *testing.T) {
	d := dice(6)
	for range 20000 {
		size := pick(&d, 2, 5, 12)
		var kids []api.Node
		for range d.roll(5) {
			kids = append(kids, d.tree(&size, 3))
		}
		docs := span(0, 9)
		all := d.some(docs)
		ls := d.lists(max(0, count(and(kids...))+pick(&d, 0, 0, -1, 2)), docs)
		wantSame(t, not(and(kids...)), each(api.Or, kids), all, ls)
		wantSame(t, not(or(kids...)), each(api.And, kids), all, ls)
		wantSame(t, not(kids...), each(api.And, kids), all, ls)
		for _, kind := range []int{api.And, api.Or, api.Not, 0} {
			n := node(kind, kids...)
			wantSame(t, not(not(n)), n, all, ls)
			wantSame(t, not(not(not(n))), not(n), all, ls)
			wantSame(t, or(leaf(), not(not(n)), leaf()), or(leaf(), n, leaf()), all, slices.Concat(ls[:min(1, len(ls))], ls))
		}
	}
}

// P18.2: of a Not and its kid each document of all is found by just one.
func TestNotIsTheRest(t *testing.T) {
	d := dice(7)
	for range 20000 {
		size := 20
		n := d.tree(&size, 4)
		docs := span(0, 12)
		all := d.some(docs)
		ls := d.lists(count(n), docs)
		both := slices.Concat(match.Eval(n, all, ls), match.Eval(not(n), all, ls))
		slices.Sort(both)
		if !slices.Equal(both, all) {
			t.Fatalf("%v and its Not find %v of %v", n, both, all)
		}
	}
}

// P18.1, P18.2: what a tree finds of some of the documents is what it finds of all, less the other ones; so it finds no others, and in order.
func TestFewerDocuments(t *testing.T) {
	d := dice(8)
	for range 20000 {
		size := 20
		n := d.tree(&size, 4)
		docs := span(0, 12)
		ls := d.lists(count(n), docs)
		fewer := d.some(docs)
		of := setOf(fewer)
		var want []int
		for _, doc := range match.Eval(n, docs, ls) {
			if of.has(doc) {
				want = append(want, doc)
			}
		}
		if got := match.Eval(n, fewer, ls); !slices.Equal(got, want) {
			t.Fatalf("Eval(%v, %v, %v) = %v; want %v", n, fewer, ls, got, want)
		}
	}
}

// timesOf are a phrase's times by document.
func timesOf(l []api.Found) map[int]int {
	m := map[int]int{}
	for _, f := range l {
		m[f.Doc] = f.Times
	}
	return m
}

// P18.3: a phrase of one term is found as often as it has places.
func TestOneTermTimes(t *testing.T) {
	d := dice(9)
	for range 5000 {
		terms, ls := d.phrase(1, pick(&d, span(0, 70), []int{0, 65535}), pick(&d, span(0, 255), span(65530, 65535), []int{0}), 0, 1, 7, 65535)
		var want []api.Found
		for _, e := range ls[0] {
			want = append(want, api.Found{Doc: e.Doc, Times: len(e.Pos)})
		}
		wantPhrase(t, terms, ls, want)
	}
}

// P18.3: a phrase is never found more often than a part of it: its beginning, its end, any of its terms; nor more often than each of them has places.
func TestPartTimes(t *testing.T) {
	d := dice(10)
	fewer := 0
	for range 15000 {
		terms, ls := d.phrase(2+d.roll(4), span(0, 6), span(0, 15), 0, 1, 5)
		whole := match.Phrase(terms, ls)
		for bits := 1; bits < 1<<len(terms); bits++ {
			var ts []api.Tok
			var some [][]api.Entry
			for i := range terms {
				if bits>>i&1 == 1 {
					ts, some = append(ts, terms[i]), append(some, ls[i])
				}
			}
			part := timesOf(match.Phrase(ts, some))
			for _, f := range whole {
				if f.Times > part[f.Doc] {
					t.Fatalf("%v of %v: in %d %d times, its part %v %d times", terms, ls, f.Doc, f.Times, ts, part[f.Doc])
				}
				if f.Times < part[f.Doc] {
					fewer++
				}
			}
		}
	}
	if fewer < 10000 {
		t.Errorf("fewer than a part %d times", fewer)
	}
}

// P18.1, P18.3: the order of a phrase's terms plays no part, nor how far all of them are moved.
func TestMovedTerms(t *testing.T) {
	d := dice(11)
	for range 15000 {
		terms, ls := d.phrase(1+d.roll(5), span(0, 6), span(0, 15), 0, 1, 5)
		want := match.Phrase(terms, ls)
		by := d.roll(65535 - 100)
		for i := range terms {
			terms[i].Pos += by
		}
		wantPhrase(t, terms, ls, want)
		for i := range terms {
			j := d.roll(i + 1)
			terms[i], terms[j] = terms[j], terms[i]
			ls[i], ls[j] = ls[j], ls[i]
		}
		wantPhrase(t, terms, ls, want)
	}
}

// P18.1: the documents of a phrase rise, each once, and how often is at least once.
func TestPhrasesRise(t *testing.T) {
	d := dice(12)
	for range 10000 {
		terms, ls := d.phrase(1+d.roll(3), span(0, 30), span(0, 9), 0, 1)
		last := -1
		for _, f := range match.Phrase(terms, ls) {
			if f.Doc <= last || f.Times < 1 {
				t.Fatalf("Phrase(%v, %v): %v behind %d", terms, ls, f, last)
			}
			last = f.Doc
		}
	}
}
