package match_test

import (
	"slices"
	"testing"

	"plover/api"
	"plover/match"
	"plover/query"
)

// dice are numbers that only look random: the same ones in each run.
type dice uint64

func (d *dice) roll(n int) int {
	*d = *d*6364136223846793005 + 1442695040888963407
	return int(uint64(*d) >> 33 % uint64(n))
}

// pick is one of several.
func pick[T any](d *dice, l ...T) T { return l[d.roll(len(l))] }

// set is whole numbers.
type set map[int]struct{}

func setOf(l []int) set {
	s := set{}
	for _, n := range l {
		s[n] = struct{}{}
	}
	return s
}

func (s set) has(n int) bool {
	_, ok := s[n]
	return ok
}

// modelPhrase is what the chapter says of a phrase: of each document the whole numbers p are counted, one by one.
func modelPhrase(terms []api.Tok, lists [][]api.Entry) (found []api.Found) {
	if len(terms) == 0 || len(lists) != len(terms) {
		return nil
	}
	farthest := 0
	for _, t := range terms {
		if t.Pos < 0 || t.Pos > 65535 {
			return nil
		}
		farthest = max(farthest, t.Pos)
	}
	places := make([]map[int]set, len(lists))
	for i, l := range lists {
		places[i] = map[int]set{}
		for _, e := range l {
			places[i][e.Doc] = setOf(e.Pos)
		}
	}
	for _, e := range lists[len(lists)-1] {
		times := 0
		for p := -farthest; p <= 65535; p++ {
			if p > e.Pos[len(e.Pos)-1] {
				break // the last term's Pos is not below 0
			}
			fits := true
			for i, t := range terms {
				fits = fits && places[i][e.Doc].has(p+t.Pos)
			}
			if fits {
				times++
			}
		}
		if times > 0 {
			found = append(found, api.Found{Doc: e.Doc, Times: times})
		}
	}
	return found
}

// modelEval is what the chapter says of a tree: each node's documents are a set, made of its kids'. The leaves are numbered as layer 17 has them.
func modelEval(n api.Node, all []int, leaves [][]api.Found) (docs []int) {
	lists := make([]set, 0, len(leaves))
	for _, l := range leaves {
		s := set{}
		for _, f := range l {
			s[f.Doc] = struct{}{}
		}
		lists = append(lists, s)
	}
	found, _ := modelNode(n, setOf(all), lists)
	for _, doc := range all {
		if found.has(doc) {
			docs = append(docs, doc)
		}
	}
	return docs
}

// modelNode is a node's set, and the lists of the leaves behind it.
func modelNode(n api.Node, all set, lists []set) (set, []set) {
	found := set{}
	if n.Kind == api.Leaf {
		if len(lists) == 0 {
			return found, nil
		}
		for doc := range all {
			if lists[0].has(doc) {
				found[doc] = struct{}{}
			}
		}
		return found, lists[1:]
	}
	times := map[int]int{} // how many kids find a document
	for _, kid := range n.Kids {
		var s set
		s, lists = modelNode(kid, all, lists)
		for doc := range s {
			times[doc]++
		}
	}
	for doc := range all {
		if n.Kind == api.And && times[doc] == len(n.Kids) || n.Kind == api.Or && times[doc] > 0 || n.Kind == api.Not && times[doc] == 0 {
			found[doc] = struct{}{}
		}
	}
	return found, lists
}

// roomy is a copy that has room behind its end, filled with something.
func roomy[T any](l []T, fill T) []T {
	n := make([]T, 0, len(l)+3)
	n = append(n, l...)
	for range 3 {
		n = append(n, fill)
	}
	return n[:len(l)]
}

// whole is a list with its spare room.
func whole[T any](l []T) []T { return l[:cap(l)] }

// roomyLists is a copy of lists of entries, with room behind each list in it.
func roomyLists(lists [][]api.Entry) [][]api.Entry {
	var ls [][]api.Entry
	for _, l := range lists {
		var es []api.Entry
		for _, e := range l {
			es = append(es, api.Entry{Doc: e.Doc, Pos: roomy(e.Pos, 65534)})
		}
		ls = append(ls, roomy(es, api.Entry{Doc: 65534, Pos: []int{3}}))
	}
	return roomy(ls, []api.Entry{{Doc: 5, Pos: []int{5}}})
}

func sameEntries(a, b []api.Entry) bool {
	return slices.EqualFunc(whole(a), whole(b), func(x, y api.Entry) bool {
		return x.Doc == y.Doc && slices.Equal(whole(x.Pos), whole(y.Pos))
	})
}

// wantPhrase holds a call against an answer, and what was handed in against what it was ahead, also behind its end and when the answer is written over.
func wantPhrase(t *testing.T, terms []api.Tok, lists [][]api.Entry, want []api.Found) {
	t.Helper()
	ts, ls := roomy(terms, api.Tok{Pos: 1}), roomyLists(lists)
	ts2, ls2 := roomy(terms, api.Tok{Pos: 1}), roomyLists(lists)
	got := match.Phrase(ts, ls)
	if !slices.Equal(got, want) {
		t.Fatalf("Phrase(%v, %v) = %v; want %v", terms, lists, got, want)
	}
	for i := range whole(got) {
		whole(got)[i] = api.Found{Doc: -3, Times: -3}
	}
	if !slices.Equal(whole(ts), whole(ts2)) || !slices.EqualFunc(whole(ls), whole(ls2), sameEntries) {
		t.Fatalf("Phrase(%v, %v) turned what was handed in", terms, lists)
	}
	if again := match.Phrase(ts, ls); !slices.Equal(again, want) {
		t.Fatalf("Phrase(%v, %v) = %v the second time; want %v", terms, lists, again, want)
	}
}

// checkPhrase holds a call against the model, and answers what both say.
func checkPhrase(t *testing.T, terms []api.Tok, lists [][]api.Entry) []api.Found {
	t.Helper()
	want := modelPhrase(terms, lists)
	wantPhrase(t, terms, lists, want)
	return want
}

// roomyTree is a copy of a tree, with room behind each list in it.
func roomyTree(n api.Node) api.Node {
	var kids []api.Node
	for _, kid := range n.Kids {
		kids = append(kids, roomyTree(kid))
	}
	n.Kids = roomy(kids, api.Node{Kind: api.Not})
	n.Terms = roomy(n.Terms, api.Tok{Text: "behind"})
	return n
}

func sameTree(a, b api.Node) bool {
	return a.Kind == b.Kind && a.Field == b.Field && len(a.Kids) == len(b.Kids) && slices.Equal(whole(a.Terms), whole(b.Terms)) && slices.EqualFunc(whole(a.Kids), whole(b.Kids), sameTree)
}

// roomyFound is a copy of lists, with room behind each.
func roomyFound(leaves [][]api.Found) [][]api.Found {
	var ls [][]api.Found
	for _, l := range leaves {
		ls = append(ls, roomy(l, api.Found{Doc: 4, Times: 1}))
	}
	return roomy(ls, []api.Found{{Doc: 1, Times: 1}, {Doc: 2, Times: 1}, {Doc: 3, Times: 1}})
}

// wantEval holds a call against an answer, and what was handed in against what it was ahead, also behind its end and when the answer is written over.
func wantEval(t *testing.T, n api.Node, all []int, leaves [][]api.Found, want []int) {
	t.Helper()
	n1, a1, l1 := roomyTree(n), roomy(all, 7777), roomyFound(leaves)
	n2, a2, l2 := roomyTree(n), roomy(all, 7777), roomyFound(leaves)
	got := match.Eval(n1, a1, l1)
	if !slices.Equal(got, want) {
		t.Fatalf("Eval(%v, %v, %v) = %v; want %v", n, all, leaves, got, want)
	}
	for i := range whole(got) {
		whole(got)[i] = -3
	}
	same := func(x, y []api.Found) bool { return slices.Equal(whole(x), whole(y)) }
	if !sameTree(n1, n2) || !slices.Equal(whole(a1), whole(a2)) || !slices.EqualFunc(whole(l1), whole(l2), same) {
		t.Fatalf("Eval(%v, %v, %v) turned what was handed in", n, all, leaves)
	}
	if again := match.Eval(n1, a1, l1); !slices.Equal(again, want) {
		t.Fatalf("Eval(%v, %v, %v) = %v the second time; want %v", n, all, leaves, again, want)
	}
}

// checkEval holds a call against the model, and answers what both say.
func checkEval(t *testing.T, n api.Node, all []int, leaves [][]api.Found) []int {
	t.Helper()
	want := modelEval(n, all, leaves)
	wantEval(t, n, all, leaves, want)
	return want
}

// count is how many leaves a tree has by layer 17.
func count(n api.Node) int {
	l, _ := query.Leaves(n)
	return len(l)
}
