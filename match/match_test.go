package match_test

import (
	"math"
	"slices"
	"testing"

	"plover/api"
	"plover/match"
	"plover/query"
)

// at is terms at places; their fields and texts play no part.
func at(places ...int) []api.Tok {
	var l []api.Tok
	for i, p := range places {
		l = append(l, api.Tok{Field: uint8(i), Text: "fox", Pos: p})
	}
	return l
}

// entry is a document with places.
func entry(doc int, places ...int) api.Entry { return api.Entry{Doc: doc, Pos: places} }

// list is a term's.
func list(l ...api.Entry) []api.Entry { return l }

// lists are several terms'.
func lists(l ...[]api.Entry) [][]api.Entry { return l }

// found is documents, each followed by how often.
func found(l ...int) []api.Found {
	var f []api.Found
	for i := 0; i < len(l); i += 2 {
		f = append(f, api.Found{Doc: l[i], Times: l[i+1]})
	}
	return f
}

// hits are lists of leaves, each with these documents.
func hits(l ...[]int) [][]api.Found {
	var all [][]api.Found
	for i, docs := range l {
		var f []api.Found
		for _, doc := range docs {
			f = append(f, api.Found{Doc: doc, Times: 1 + (doc+i)&3})
		}
		all = append(all, f)
	}
	return all
}

func leaf() api.Node                        { return api.Node{Kind: api.Leaf} }
func and(kids ...api.Node) api.Node         { return node(api.And, kids...) }
func or(kids ...api.Node) api.Node          { return node(api.Or, kids...) }
func not(kids ...api.Node) api.Node         { return node(api.Not, kids...) }
func node(k int, kids ...api.Node) api.Node { return api.Node{Kind: k, Kids: kids} }

// span is the numbers from a to b.
func span(a, b int) []int {
	var l []int
	for n := a; n <= b; n++ {
		l = append(l, n)
	}
	return l
}

// P18.1: the chapter's examples.
func TestExamples(t *testing.T) {
	fox, dog := list(entry(3, 0, 4)), list(entry(3, 1))
	wantPhrase(t, at(0, 1), lists(fox, dog), found(3, 1))
	wantEval(t, not(leaf()), []int{1, 2, 3}, hits([]int{2}), []int{1, 3})
}

// P18.1: a phrase of texts is found where its words stand as they do in it.
func TestWords(t *testing.T) {
	the := list(entry(0, 0, 4), entry(2, 7))
	big := list(entry(0, 1, 5), entry(1, 3), entry(2, 8))
	cat := list(entry(0, 2, 6), entry(1, 4), entry(2, 10))
	wantPhrase(t, at(0, 1, 2), lists(the, big, cat), found(0, 2))
	wantPhrase(t, at(0, 1), lists(the, big), found(0, 2, 2, 1))
	wantPhrase(t, at(0, 1), lists(big, cat), found(0, 2, 1, 1))
	wantPhrase(t, at(0, 2), lists(big, cat), found(2, 1))
	wantPhrase(t, at(0, 3), lists(the, cat), found(2, 1))
	wantPhrase(t, at(0, 1, 3), lists(the, big, cat), found(2, 1))
	wantPhrase(t, at(0, 1), lists(cat, big), nil)
}

// P18.1: one term is found at each of its places, wherever it stands in the phrase.
func TestOneTerm(t *testing.T) {
	l := list(entry(0, 0), entry(1, 0, 1, 2), entry(65535, 0, 7, 65534, 65535))
	for _, p := range []int{0, 1, 2, 8, 300, 65534, 65535} {
		wantPhrase(t, at(p), lists(l), found(0, 1, 1, 3, 65535, 4))
	}
	wantPhrase(t, at(0), lists(nil), nil)
	wantPhrase(t, at(0), lists(list(entry(9, span(1000, 1255)...))), found(9, 256))
}

// P18.1: none, if there are no terms, or not as many lists.
func TestNotAsMany(t *testing.T) {
	l := list(entry(3, 0, 1, 2, 3))
	for terms := range 5 {
		for n := range 5 {
			var ls [][]api.Entry
			for range n {
				ls = append(ls, l)
			}
			var want []api.Found
			if terms == n && n > 0 {
				want = found(3, 4)
			}
			wantPhrase(t, at(slices.Repeat([]int{2}, terms)...), ls, want)
			wantPhrase(t, at(slices.Repeat([]int{0}, terms)...), ls, want)
		}
	}
	if got := match.Phrase([]api.Tok{}, [][]api.Entry{}); len(got) > 0 {
		t.Errorf("of nothing: %v", got)
	}
	if got := match.Phrase(nil, nil); len(got) > 0 {
		t.Errorf("of nil: %v", got)
	}
}

// P18.1: the numbers p may be below 0: what counts is how the terms stand to one another.
func TestBelowNought(t *testing.T) {
	l, m := list(entry(1, 0, 2)), list(entry(1, 1, 3))
	for _, p := range []int{0, 1, 2, 3, 4, 1000, 65534} {
		wantPhrase(t, at(p, p+1), lists(l, m), found(1, 2))
		wantPhrase(t, at(p+1, p), lists(m, l), found(1, 2))
	}
	wantPhrase(t, at(65535, 65535), lists(list(entry(1, 0)), list(entry(1, 0))), found(1, 1))
	wantPhrase(t, at(65535, 65534), lists(list(entry(1, 1)), list(entry(1, 0))), found(1, 1))
	wantPhrase(t, at(65535, 0), lists(list(entry(1, 65535)), list(entry(1, 0))), found(1, 1))
	wantPhrase(t, at(0, 65535), lists(list(entry(1, 0)), list(entry(1, 65535))), found(1, 1))
	wantPhrase(t, at(0, 65535), lists(list(entry(1, 65535)), list(entry(1, 0))), nil)
	wantPhrase(t, at(65535, 0), lists(list(entry(1, 0, 65534)), list(entry(1, 0, 65535))), nil)
}

// P18.1: the terms' places needn't rise, nor be others.
func TestOrderOfTerms(t *testing.T) {
	x, y, z := list(entry(4, 10, 20)), list(entry(4, 11, 22)), list(entry(4, 12, 21))
	wantPhrase(t, at(0, 1, 2), lists(x, y, z), found(4, 1))
	wantPhrase(t, at(2, 1, 0), lists(z, y, x), found(4, 1))
	wantPhrase(t, at(1, 2, 0), lists(y, z, x), found(4, 1))
	wantPhrase(t, at(0, 2, 1), lists(x, y, z), found(4, 1))
	wantPhrase(t, at(0, 0), lists(x, x), found(4, 2))
	wantPhrase(t, at(5, 5), lists(x, y), nil)
	wantPhrase(t, at(0, 10), lists(x, x), found(4, 1))
	wantPhrase(t, at(0, 1, 0), lists(x, y, x), found(4, 1))
}

// P18.1: the same term more than once in a phrase.
func TestSameTerm(t *testing.T) {
	l := list(entry(1, 0, 1, 2, 3), entry(2, 0, 2, 4), entry(3, 5))
	wantPhrase(t, at(0, 1), lists(l, l), found(1, 3))
	wantPhrase(t, at(0, 1, 2), lists(l, l, l), found(1, 2))
	wantPhrase(t, at(0, 1, 2, 3), lists(l, l, l, l), found(1, 1))
	wantPhrase(t, at(0, 1, 2, 3, 4), lists(l, l, l, l, l), nil)
	wantPhrase(t, at(0, 2), lists(l, l), found(1, 2, 2, 2))
	wantPhrase(t, at(0, 4), lists(l, l), found(2, 1))
}

// P18.1: of terms whose Pos is below 0 or above 65535 nothing is found, whichever of them it is and whatever the other ones' are.
func TestTermsBeyond(t *testing.T) {
	l := list(entry(0, 0, 1, 2, 65534, 65535), entry(1, span(0, 255)...), entry(65535, 65535))
	for _, p := range []int{math.MinInt, math.MinInt + 1, math.MinInt + 65535, math.MinInt32, -65536, -65535, -2, -1, 65536, 65537, 131070, math.MaxInt32, math.MaxInt - 65535, math.MaxInt - 1, math.MaxInt} {
		wantPhrase(t, at(p), lists(l), nil)
		for _, q := range []int{p, p - 1, p + 1, p + math.MinInt, 0, 1, 65535} {
			wantPhrase(t, at(p, q), lists(l, l), nil)
			wantPhrase(t, at(q, p), lists(l, l), nil)
			wantPhrase(t, at(0, p, q), lists(l, l, l), nil)
		}
	}
	wantPhrase(t, at(65535, 65535), lists(l, l), found(0, 5, 1, 256, 65535, 1))
	wantPhrase(t, at(0, 0), lists(l, l), found(0, 5, 1, 256, 65535, 1))
}

// P18.1: a document is found that stands in all lists; not one that stands in all but one, in one alone, at either end of a list or between.
func TestStandsInAll(t *testing.T) {
	for n := 1; n <= 5; n++ {
		for out := range 1 << (3 * n) {
			if out%7 != 0 && n == 5 {
				continue
			}
			ls := make([][]api.Entry, n)
			var want []api.Found
			for doc := range 3 {
				everywhere := true
				for i := range n {
					if out>>(3*i+doc)&1 == 1 {
						everywhere = false
					} else {
						ls[i] = append(ls[i], entry(doc*32767, i, 100+i, 200+2*i))
					}
				}
				if everywhere && n == 1 {
					want = append(want, api.Found{Doc: doc * 32767, Times: 3})
				} else if everywhere {
					want = append(want, api.Found{Doc: doc * 32767, Times: 2})
				}
			}
			wantPhrase(t, at(span(0, n-1)...), ls, want)
		}
	}
}

// P18.1: a list's length plays no part, whatever layer 13 says of it; nor do long lists beside short ones.
func TestLongLists(t *testing.T) {
	var every, third, fifth []api.Entry
	for doc := range 65536 {
		every = append(every, entry(doc, 0, 1, 2))
		if doc%3 == 0 {
			third = append(third, entry(doc, 3))
		}
		if doc%5 == 0 {
			fifth = append(fifth, entry(doc, 2, 4))
		}
	}
	var want []api.Found
	for doc := 0; doc < 65536; doc += 15 {
		want = append(want, api.Found{Doc: doc, Times: 1})
	}
	wantPhrase(t, at(0, 1, 2), lists(every, third, fifth), want)
	wantPhrase(t, at(2, 1, 0), lists(fifth, third, every), want)
	wantPhrase(t, at(0, 1), lists(every, list(entry(65535, 1))), found(65535, 1))
	wantPhrase(t, at(1, 0), lists(list(entry(65535, 3)), every), found(65535, 1))
	wantPhrase(t, at(0, 1), lists(every, nil), nil)
	wantPhrase(t, at(0, 1), lists(nil, every), nil)
}

// P18.1: a leaf finds those of all that stand in its list, once each and however often they were found.
func TestLeaf(t *testing.T) {
	all := []int{1, 2, 3, 5, 8}
	wantEval(t, leaf(), all, hits([]int{2, 8}), []int{2, 8})
	wantEval(t, leaf(), all, hits([]int{0, 1, 4, 5, 9}), []int{1, 5})
	wantEval(t, leaf(), all, hits([]int{0, 4, 6, 7, 9, 10}), nil)
	wantEval(t, leaf(), all, hits(all), all)
	wantEval(t, leaf(), all, hits(nil), nil)
	wantEval(t, leaf(), all, nil, nil)
	wantEval(t, leaf(), nil, hits(all), nil)
	wantEval(t, leaf(), all, hits([]int{1}, []int{2}), []int{1})
	wantEval(t, leaf(), all, [][]api.Found{{{Doc: 2}, {Doc: 3, Times: -1}, {Doc: 8, Times: 70000}}}, []int{2, 3, 8})
	wantEval(t, leaf(), []int{math.MinInt, -1, 0, math.MaxInt}, hits([]int{math.MinInt, 0, 1, math.MaxInt}), []int{math.MinInt, 0, math.MaxInt})
}

// P18.1: a leaf's kids play no part, and have no lists.
func TestLeafWithKids(t *testing.T) {
	n := api.Node{Kind: api.Leaf, Field: 2, Terms: at(0, 1), Kids: []api.Node{leaf(), not(leaf())}}
	wantEval(t, n, []int{1, 2, 3}, hits([]int{2}, []int{3}), []int{2})
	wantEval(t, or(n, leaf()), []int{1, 2, 3}, hits([]int{2}, []int{3}, []int{1}), []int{2, 3})
}

// P18.1: an And finds what each kid finds, an Or what a kid finds, a Not what none of its kids finds; without kids all, none, all.
func TestKinds(t *testing.T) {
	all := span(0, 9)
	x, y, z := []int{1, 2, 3, 4}, []int{2, 4, 6, 8}, []int{3, 4, 8, 9}
	for kids, want := range [][3][]int{{all, nil, all}, {x, x, {0, 5, 6, 7, 8, 9}}, {{2, 4}, {1, 2, 3, 4, 6, 8}, {0, 5, 7, 9}}, {{4}, {1, 2, 3, 4, 6, 8, 9}, {0, 5, 7}}} {
		leaves := slices.Repeat([]api.Node{leaf()}, kids)
		wantEval(t, and(leaves...), all, hits(x, y, z), want[0])
		wantEval(t, or(leaves...), all, hits(x, y, z), want[1])
		wantEval(t, not(leaves...), all, hits(x, y, z), want[2])
	}
	for _, kind := range []int{api.And, api.Or, api.Not} {
		wantEval(t, node(kind), nil, nil, nil)
		wantEval(t, node(kind, leaf()), nil, hits(x), nil)
	}
}

// P18.1: a node of another kind finds none, but its leaves have lists.
func TestOtherKinds(t *testing.T) {
	all := []int{1, 2, 3}
	for _, kind := range []int{0, 5, 6, -1, math.MinInt, math.MaxInt, 1 << 32, 1<<32 + 1, 257} {
		other := node(kind, leaf(), and(leaf(), leaf()))
		wantEval(t, node(kind), all, nil, nil)
		wantEval(t, other, all, hits(all, all, all), nil)
		wantEval(t, not(other), all, hits(all, all, all), all)
		wantEval(t, or(other, leaf()), all, hits([]int{1}, []int{1}, []int{1}, []int{2}), []int{2})
		wantEval(t, or(leaf(), other, leaf()), all, hits([]int{1}, nil, nil, nil, []int{3}), []int{1, 3})
		wantEval(t, and(other, leaf()), all, hits(all, all, all, all), nil)
	}
	wantEval(t, api.Node{}, all, hits(all), nil)
}

// P18.1: the lists are those of the leaves from the left to the right, also where nothing is left to be found.
func TestOrderOfLeaves(t *testing.T) {
	all := span(0, 5)
	n := or(and(leaf(), leaf(), leaf()), leaf(), not(leaf(), leaf()))
	wantEval(t, n, all, hits(nil, []int{1}, []int{2}, []int{3}, []int{0, 1, 2, 3}, []int{4}), []int{3, 5})
	wantEval(t, or(not(leaf(), leaf()), leaf()), all, hits(all, []int{1}, []int{2}), []int{2})
	wantEval(t, or(leaf(), leaf(), not(leaf())), all, hits(all, []int{1}, nil), all)
	wantEval(t, and(or(leaf(), leaf()), leaf()), all, hits(all, nil, []int{5}), []int{5})
}

// P18.1: where there are fewer lists than leaves the last leaves find none; where there are more, these play no part.
func TestFewerLists(t *testing.T) {
	all := []int{4, 5, 6}
	three := []api.Node{leaf(), leaf(), leaf()}
	for lists := range 6 {
		ls := make([][]int, lists)
		for i := range ls {
			ls[i] = []int{4, 5}
		}
		wantAnd, wantOr, wantNot := []int(nil), []int{4, 5}, []int{6}
		if lists >= 3 {
			wantAnd = []int{4, 5}
		}
		if lists == 0 {
			wantOr, wantNot = nil, all
		}
		wantEval(t, and(three...), all, hits(ls...), wantAnd)
		wantEval(t, or(three...), all, hits(ls...), wantOr)
		wantEval(t, not(three...), all, hits(ls...), wantNot)
	}
}

// P18.1: queries that were read find what they say.
func TestQueries(t *testing.T) {
	all := span(1, 8) // the bits 1, 2, 4 of a number: whether it has fox, dog, cat
	has := map[string][]int{"fox": {1, 3, 5, 7}, "dog": {2, 3, 6, 7}, "cat": {4, 5, 6, 7}}
	for s, want := range map[string][]int{
		"fox":                       {1, 3, 5, 7},
		"fox dog":                   {3, 7},
		"fox dog cat":               {7},
		"fox | dog":                 {1, 2, 3, 5, 6, 7},
		"!fox":                      {2, 4, 6, 8},
		"!(fox | dog | cat)":        {8},
		"!(fox dog)":                {1, 2, 4, 5, 6, 8},
		"fox !dog":                  {1, 5},
		"fox !dog | cat !fox":       {1, 4, 5, 6},
		"(fox | dog) & (dog | cat)": {2, 3, 5, 6, 7},
		"!!fox !!!cat":              {1, 3},
		"the":                       nil,
		"!the":                      all,
		"the | cat":                 {4, 5, 6, 7},
	} {
		q, err := query.Parse(s)
		if err != api.OK {
			t.Fatal(s, err)
		}
		var ls [][]int
		leaves, _ := query.Leaves(q.Root)
		for _, l := range leaves {
			if len(l.Terms) == 1 {
				ls = append(ls, has[l.Terms[0].Text])
			} else {
				ls = append(ls, nil)
			}
		}
		wantEval(t, q.Root, all, hits(ls...), want)
	}
}

// P18.1: trees of as many nodes within one another as the document allows.
func TestDeep(t *testing.T) {
	all := []int{1, 2, 3}
	for _, kind := range []int{api.And, api.Or, api.Not} {
		n := leaf()
		for range 65535 {
			n = node(kind, n)
		}
		want := []int{2}
		if kind == api.Not {
			want = []int{1, 3}
		}
		if got := match.Eval(n, all, hits([]int{2})); !slices.Equal(got, want) {
			t.Errorf("kind %d: %v; want %v", kind, got, want)
		}
	}
}

// P18.1: nodes of as many kids as a text can't have.
func TestManyKids(t *testing.T) {
	const n = 1000
	all := span(0, n)
	kids := slices.Repeat([]api.Node{leaf()}, n)
	var one, but [][]int
	for i := range n {
		one = append(one, []int{i})
		but = append(but, slices.Concat(span(0, i-1), span(i+1, n)))
	}
	for i, c := range []struct {
		n     api.Node
		lists [][]int
		want  []int
	}{{or(kids...), one, span(0, n-1)}, {not(kids...), one, []int{n}}, {and(kids...), one, nil}, {and(kids...), but, []int{n}}, {or(kids...), but, all}, {not(kids...), but, nil}} {
		if got := match.Eval(c.n, all, hits(c.lists...)); !slices.Equal(got, c.want) {
			t.Errorf("case %d: %d documents", i, len(got))
		}
	}
}
