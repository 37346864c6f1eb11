package match_test

import (
	"math"
	"slices"
	"testing"

	"plover/api"
	"plover/match"
)

// some are those of rising numbers that a throw leaves: all but few, half, or few.
func (d *dice) some(l []int) []int {
	out, of := pick(d, 1, 1, 1, 1, 4, 0, 5), 5
	if d.roll(2) == 0 {
		out, of = 1, 2
	}
	var kept []int
	for _, n := range l {
		if d.roll(of) >= out {
			kept = append(kept, n)
		}
	}
	return kept
}

// entries are a term's, of some of these documents, at some of these places of each.
func (d *dice) entries(docs, places []int) []api.Entry {
	var l []api.Entry
	for _, doc := range d.some(docs) {
		pos := d.some(places)
		if len(pos) == 0 {
			pos = []int{pick(d, places...)}
		}
		l = append(l, api.Entry{Doc: doc, Pos: pos})
	}
	return l
}

// phrase is n terms among which the same ones stand more than once, and their lists.
func (d *dice) phrase(n int, docs, places []int, spots ...int) ([]api.Tok, [][]api.Entry) {
	var words [][]api.Entry
	for range 1 + d.roll(n) {
		words = append(words, d.entries(docs, places))
	}
	var terms []api.Tok
	var ls [][]api.Entry
	spot := pick(d, spots...)
	for i := range n {
		terms = append(terms, api.Tok{Field: uint8(d.roll(5)), Text: pick(d, "", "fox", "dog"), Pos: spot})
		spot += pick(d, 1, 1, 1, 1, 2, 3, 0, -1)
		if spot < 0 || d.roll(12) == 0 {
			spot = pick(d, spots...)
		}
		ls = append(ls, words[(i+d.roll(2))%len(words)])
	}
	return terms, ls
}

// P18.1: drawn phrases against the model, of few documents and places that lie close, at both ends of what may be.
func TestDrawnPhrases(t *testing.T) {
	d := dice(1)
	several, below := 0, 0
	for range 60000 {
		docs := pick(&d, span(0, 5), span(0, 12), span(65530, 65535), []int{0, 1, 65534, 65535}, []int{0}, []int{65535})
		terms, ls := d.phrase(1+d.roll(5), docs, pick(&d, span(0, 6), span(3, 40), span(0, 20)), 0, 0, 0, 1, 2, 9)
		for _, f := range checkPhrase(t, terms, ls) {
			if len(terms) > 1 && f.Times > 1 {
				several++
			}
		}
		if len(terms) > 1 && terms[0].Pos > 2 {
			below++
		}
	}
	if several < 10000 || below < 5000 {
		t.Errorf("found more than once: %d; with numbers below 0: %d", several, below)
	}
}

// P18.1: drawn phrases of terms and places that lie far from one another, with documents of many places.
func TestDrawnFar(t *testing.T) {
	d := dice(2)
	times := 0
	for range 600 {
		places := pick(&d, span(65280, 65535), span(0, 255), slices.Concat(span(0, 9), span(65500, 65535)), []int{0, 32767, 32768, 65534, 65535})
		terms, ls := d.phrase(1+d.roll(5), []int{0, 65535}, places, 0, 1, 32768, 65279, 65530, 65531)
		for i := range terms {
			terms[i].Pos = min(terms[i].Pos, 65535)
		}
		times += len(checkPhrase(t, terms, ls))
	}
	if times < 100 {
		t.Errorf("found %d times", times)
	}
}

// P18.1: drawn phrases whose lists aren't as many as the terms, or one of whose terms stands where none can.
func TestDrawnWrong(t *testing.T) {
	d := dice(3)
	for range 4000 {
		terms, ls := d.phrase(1+d.roll(5), span(0, 5), span(0, 20), 0, 1)
		switch d.roll(4) {
		case 0:
			terms = terms[:d.roll(len(terms))]
		case 1:
			ls = ls[:d.roll(len(ls))]
		case 2:
			ls = append(ls, d.entries(span(0, 5), span(0, 20)))
		default:
			terms[d.roll(len(terms))].Pos = pick(&d, math.MinInt, math.MinInt+1, -65536, -1, 65536, 131072, math.MaxInt-1, math.MaxInt)
		}
		wantPhrase(t, terms, ls, nil)
	}
}

// P18.1: all phrases of up to three terms at up to three spots, in two documents of up to three places.
func TestAllSmallPhrases(t *testing.T) {
	var words [][]api.Entry
	for a := range 8 {
		for b := range 4 {
			words = append(words, small(a, b))
		}
	}
	for _, x := range words {
		for _, y := range words {
			for spots := range 9 {
				checkPhrase(t, at(spots%3, spots/3), lists(x, y))
			}
		}
	}
	for i, x := range words {
		for j, y := range words {
			for k, z := range words {
				for spots := (i + j + k) % 5; spots < 27; spots += 5 {
					ts, ls := at(spots%3, spots/3%3, spots/9), lists(x, y, z)
					if got, want := match.Phrase(ts, ls), modelPhrase(ts, ls); !slices.Equal(got, want) {
						t.Fatalf("Phrase(%v, %v) = %v; want %v", ts, ls, got, want)
					}
				}
			}
		}
	}
}

// small is a term of the documents 0 and 1, at the places that these bits say.
func small(bits ...int) []api.Entry {
	var l []api.Entry
	for doc, b := range bits {
		var pos []int
		for p := range 3 {
			if b>>p&1 == 1 {
				pos = append(pos, p)
			}
		}
		if len(pos) > 0 {
			l = append(l, api.Entry{Doc: doc, Pos: pos})
		}
	}
	return l
}

// tree is a drawn one that branches at most so often, and how often that still may be.
func (d *dice) tree(size *int, deep int) api.Node {
	*size--
	if *size <= 0 || deep == 0 || d.roll(4) == 0 {
		n := leaf()
		if d.roll(8) == 0 {
			n.Kids = []api.Node{not(leaf()), leaf()}
		}
		return n
	}
	n := node(pick(d, api.And, api.And, api.Or, api.Or, api.Not, api.Not, api.And, api.Or, 0, 5, -1, 1<<32|1))
	for range pick(d, 0, 1, 1, 2, 2, 2, 3, 3, 9) {
		n.Kids = append(n.Kids, d.tree(size, deep-1))
	}
	return n
}

// lists are n leaves': some of the documents, others, the same ones as another leaf's, or none.
func (d *dice) lists(n int, docs []int) [][]api.Found {
	var ls [][]api.Found
	for i := range n {
		if i > 0 && d.roll(4) == 0 {
			ls = append(ls, ls[d.roll(i)])
			continue
		}
		var l []api.Found
		for _, doc := range d.some(docs) {
			l = append(l, api.Found{Doc: doc, Times: pick(d, 1, 1, 2, 256)})
		}
		if d.roll(8) == 0 {
			l = nil
		}
		ls = append(ls, l)
	}
	return ls
}

// P18.1: drawn trees against the model, with as many lists as leaves, fewer, and more.
func TestDrawnTrees(t *testing.T) {
	d := dice(4)
	part := 0
	for range 60000 {
		size := pick(&d, 2, 5, 12, 40)
		n := d.tree(&size, pick(&d, 1, 2, 3, 12))
		docs := pick(&d, span(0, 8), span(-3, 3), span(65520, 65535), []int{math.MinInt, -1, 0, 1, 65536, math.MaxInt})
		all := d.some(docs)
		if d.roll(20) == 0 {
			all = nil
		}
		ls := d.lists(max(0, count(n)+pick(&d, 0, 0, 0, -1, -2, 1, 3)), docs)
		if got := checkEval(t, n, all, ls); len(got) > 0 && len(got) < len(all) {
			part++
		}
	}
	if part < 10000 {
		t.Errorf("some and not all were found %d times", part)
	}
}

// P18.1: drawn trees of many levels, each of which has kids beside the one that goes on.
func TestDrawnDeep(t *testing.T) {
	d := dice(5)
	part := 0
	for range 300 {
		n := leaf()
		for range 200 {
			kids := []api.Node{n}
			for range d.roll(3) {
				kids = append(kids, leaf())
			}
			if d.roll(2) == 0 {
				slices.Reverse(kids)
			}
			n = node(pick(&d, api.And, api.Or, api.Not), kids...)
		}
		all := span(0, 20)
		if got := checkEval(t, n, all, d.lists(count(n), all)); len(got) > 0 && len(got) < len(all) {
			part++
		}
	}
	if part < 50 {
		t.Errorf("some and not all were found %d times", part)
	}
}

// P18.1: all trees of up to three levels and two kids, with leaves that tell all of eight documents apart.
func TestAllSmallTrees(t *testing.T) {
	kinds := []int{api.Leaf, api.And, api.Or, api.Not, 0}
	var level []api.Node
	for range 2 {
		var next []api.Node
		for _, kind := range kinds {
			next = append(next, node(kind))
			for _, x := range level {
				next = append(next, node(kind, x))
				for _, y := range level {
					next = append(next, node(kind, x, y))
				}
			}
		}
		level = next
	}
	all := span(0, 7)
	ls := hits([]int{1, 3, 5, 7}, []int{2, 3, 6, 7}, []int{4, 5, 6, 7})
	for _, kind := range kinds {
		for _, x := range level {
			for _, y := range level {
				n := node(kind, x, y)
				if got, want := match.Eval(n, all, ls), modelEval(n, all, ls); !slices.Equal(got, want) {
					t.Fatalf("Eval(%v) = %v; want %v", n, got, want)
				}
			}
		}
	}
}

// P18.1: a call ends, whatever it is given: lists that may not be, documents that don't rise.
func TestEnds(t *testing.T) {
	d := dice(13)
	odd := func() int { return pick(&d, math.MinInt, -65536, -1, 0, 1, 2, 3, 65535, 65536, math.MaxInt) }
	for range 20000 {
		var terms []api.Tok
		var ls [][]api.Entry
		for range d.roll(4) {
			terms = append(terms, api.Tok{Pos: pick(&d, 0, 1, 65535)})
			var l []api.Entry
			for range d.roll(5) {
				e := api.Entry{Doc: pick(&d, 0, 1, odd())}
				for range d.roll(4) {
					e.Pos = append(e.Pos, odd())
				}
				l = append(l, e)
			}
			ls = append(ls, l)
		}
		match.Phrase(terms, ls)
		size := 12
		n := d.tree(&size, 4)
		var all []int
		for range d.roll(6) {
			all = append(all, odd())
		}
		var leaves [][]api.Found
		for range d.roll(5) {
			var l []api.Found
			for range d.roll(5) {
				l = append(l, api.Found{Doc: odd(), Times: odd()})
			}
			leaves = append(leaves, l)
		}
		match.Eval(n, all, leaves)
	}
}
