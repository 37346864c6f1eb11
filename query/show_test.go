package query_test

import (
	"math"
	"slices"
	"strings"
	"testing"

	"plover/api"
	"plover/query"
)

func wantText(t *testing.T, q api.Query, want string) {
	t.Helper()
	if got, err := query.Show(q); got != want || err != api.OK {
		t.Errorf("Show(%v) = %q, %v; want %q", q, got, err, want)
	}
	if back, err := query.Parse(want); !sameQuery(back, q) || err != api.OK {
		t.Errorf("Parse(%q) = %v, %v; want %v", want, back, err, q)
	}
}

// wantShown asks for the text of a tree.
func wantShown(t *testing.T, root api.Node, want string) {
	t.Helper()
	wantText(t, usual(root), want+" #10 @rank")
}

func wantNoText(t *testing.T, want api.Errno, q api.Query) {
	t.Helper()
	if got, err := query.Show(q); got != "" || err != want {
		t.Errorf("Show(%v) = %q, %v; want %v", q, got, err, want)
	}
}

// wantRefused asks that a tree may not be, alone and within each other node.
func wantRefused(t *testing.T, root api.Node) {
	t.Helper()
	x := word("x")
	for _, n := range []api.Node{root, not(root), and(x, root), and(root, x), or(x, root), or(root, x), or(x, x, not(and(x, x, root)))} {
		wantNoText(t, api.ErrQuery, usual(n))
	}
}

// P17.1: each node's text, and its brackets.
func TestShow(t *testing.T) {
	x, y, z := word("x"), phrase(1, "y"), phrase(2, "z", "z")
	wantShown(t, x, "0:x")
	wantShown(t, y, "1:y")
	wantShown(t, z, `2:"z z"`)
	wantShown(t, phrase(3), `3:""`)
	wantShown(t, phrase(0), `0:""`)
	wantShown(t, and(x, y), "0:x & 1:y")
	wantShown(t, and(x, y, z), `0:x & 1:y & 2:"z z"`)
	wantShown(t, or(x, y), "0:x | 1:y")
	wantShown(t, or(z, y, x), `2:"z z" | 1:y | 0:x`)
	wantShown(t, not(x), "!0:x")
	wantShown(t, not(z), `!2:"z z"`)
	wantShown(t, not(not(x)), "!!0:x")
	wantShown(t, not(and(x, y)), "!(0:x & 1:y)")
	wantShown(t, not(or(x, y)), "!(0:x | 1:y)")
	wantShown(t, and(and(x, y), z), `(0:x & 1:y) & 2:"z z"`)
	wantShown(t, and(x, or(y, z), x), `0:x & (1:y | 2:"z z") & 0:x`)
	wantShown(t, and(not(x), not(y)), "!0:x & !1:y")
	wantShown(t, or(and(x, y), z), `0:x & 1:y | 2:"z z"`)
	wantShown(t, or(x, or(y, z)), `0:x | (1:y | 2:"z z")`)
	wantShown(t, or(not(x), y), "!0:x | 1:y")
	wantShown(t, or(and(x, or(y, and(x, z))), not(not(or(x, y)))), `0:x & (1:y | 0:x & 2:"z z") | !!(0:x | 1:y)`)
	for n := range 65 {
		wantText(t, api.Query{Root: x, Limit: n, Order: api.ByRank}, "0:x #"+limits[n]+" @rank")
		wantText(t, api.Query{Root: x, Limit: n, Order: api.ByNew}, "0:x #"+limits[n]+" @new")
	}
}

// P17.1: places that are left out are shown as words that have none.
func TestGaps(t *testing.T) {
	wantShown(t, phrase(0, "x", "", "y"), `0:"x a y"`)
	wantShown(t, phrase(1, "x", "", "", "", "y", "z", "", "x"), `1:"x a a a y z a x"`)
	wantText(t, usual(phrase(0, append(append([]string{"x"}, make([]string, 119)...), "y")...)), `0:"x`+strings.Repeat(" a", 119)+` y" #10 @rank`)
	long := api.Node{Kind: api.Leaf, Terms: []api.Tok{{Text: "x"}, {Text: "y", Pos: 256}}}
	wantNoText(t, api.ErrTooLong, usual(long))
	long.Terms[1].Pos = 257
	wantNoText(t, api.ErrQuery, usual(long))
}

// P17.1: limits and orders that may not be.
func TestShowEnds(t *testing.T) {
	for _, n := range []int{-1, 65, 66, 100, 128, 256, 1 << 32, 1 << 62, -64, math.MinInt, math.MaxInt} {
		wantNoText(t, api.ErrQuery, api.Query{Root: word("x"), Limit: n})
		wantNoText(t, api.ErrQuery, api.Query{Root: word("x"), Limit: n, Order: api.ByNew})
	}
	for _, n := range []int{-1, 2, 3, 256, 257, 1 << 32, 1<<32 + 1, math.MinInt, math.MaxInt} {
		wantNoText(t, api.ErrQuery, api.Query{Root: word("x"), Limit: 10, Order: n})
	}
	wantNoText(t, api.ErrQuery, api.Query{})
	long := usual(and(slices.Repeat([]api.Node{word("abcdefgh")}, 100)...))
	wantNoText(t, api.ErrTooLong, long)
	long.Limit = 65
	wantNoText(t, api.ErrQuery, long) // named first
}

// P17.1: nodes that may not be, wherever they stand.
func TestRefused(t *testing.T) {
	x := word("x")
	for _, kind := range []int{0, 5, -1, 6, 255, 256, 257, 1 << 32, 1<<32 + 1, math.MinInt, math.MaxInt} {
		wantRefused(t, api.Node{Kind: kind})
		wantRefused(t, api.Node{Kind: kind, Terms: x.Terms})
		wantRefused(t, api.Node{Kind: kind, Kids: []api.Node{x}})
		wantRefused(t, api.Node{Kind: kind, Kids: []api.Node{x, x}})
	}
	for _, kind := range []int{api.And, api.Or, api.Not} {
		for n := range 5 {
			kids := slices.Repeat([]api.Node{x}, n)
			if kind == api.Not && n == 1 || kind != api.Not && n > 1 {
				wantRefused(t, api.Node{Kind: kind, Kids: kids, Field: 1})
				wantRefused(t, api.Node{Kind: kind, Kids: kids, Field: 255})
				wantRefused(t, api.Node{Kind: kind, Kids: kids, Terms: x.Terms})
				wantRefused(t, api.Node{Kind: kind, Kids: kids, Terms: make([]api.Tok, 1)})
				for i := range n {
					bad := slices.Clone(kids)
					bad[i] = api.Node{}
					wantRefused(t, api.Node{Kind: kind, Kids: bad})
				}
				wantBack(t, usual(api.Node{Kind: kind, Kids: kids, Terms: []api.Tok{}}))
			} else {
				wantRefused(t, api.Node{Kind: kind, Kids: kids})
			}
		}
	}
	wantRefused(t, api.Node{Kind: api.Leaf, Terms: x.Terms, Kids: []api.Node{x}})
	wantRefused(t, api.Node{Kind: api.Leaf, Kids: []api.Node{x, x}})
	wantRefused(t, api.Node{Kind: api.Leaf, Kids: make([]api.Node, 1)})
	wantBack(t, usual(api.Node{Kind: api.Leaf, Terms: x.Terms, Kids: []api.Node{}}))
	for _, f := range []uint8{4, 5, 128, 207, 208, 252, 255} {
		wantRefused(t, phrase(f, "x"))
		wantRefused(t, phrase(f))
		wantRefused(t, phrase(f, "x", "y"))
	}
}

// P17.1: terms that may not be a leaf's.
func TestTerms(t *testing.T) {
	for _, s := range []string{"", " ", "the", "a", "X", "Fox", "fox ", " fox", "fox dog", "fox the", "the fox", "fox,", "\"", "fox\"", "(x)", "#", "\xff", "x\xff", "\xffx", "x\x00", "abcdefghijklmnopq", "\u00c9", "\u0661", "\u017f", "\u03c2", strings.Repeat("\u00e9", 8) + "x", strings.Repeat("\u4e00", 6), "\u00d7", "x-y", strings.Repeat("x", 100000)} {
		wantRefused(t, api.Node{Kind: api.Leaf, Terms: []api.Tok{{Text: s}}})
		wantRefused(t, api.Node{Kind: api.Leaf, Terms: []api.Tok{{Text: s}, {Text: "x", Pos: 1}}})
		wantRefused(t, api.Node{Kind: api.Leaf, Terms: []api.Tok{{Text: "x"}, {Text: s, Pos: 1}}})
	}
	for _, s := range []string{"x", "7", "0", "fox", "abcdefghijklmnop", "\u00e9", "\u03c3", "\u4e00", strings.Repeat("\u4e00", 5), "x1", "new"} {
		wantShown(t, word(s), "0:"+s)
		wantShown(t, phrase(3, s, "", s), `3:"`+s+" a "+s+`"`)
	}
	for _, l := range [][]int{{1}, {-1}, {256}, {math.MinInt}, {math.MaxInt}, {0, 0}, {0, -1}, {1, 2}, {-1, 0}, {0, 2, 2}, {0, 2, 1}, {0, 3, 1, 4}, {0, 257}, {0, 1, math.MaxInt}, {0, math.MinInt}, {0, 1 << 32}, {0, 1, 2, 0}, {0, 256, 257}, {0, 256, 256}} {
		n := api.Node{Kind: api.Leaf}
		for _, pos := range l {
			n.Terms = append(n.Terms, api.Tok{Text: "x", Pos: pos})
		}
		wantRefused(t, n)
	}
	for f := range uint8(4) {
		for g := range uint8(6) {
			if f != g {
				wantRefused(t, api.Node{Kind: api.Leaf, Field: f, Terms: []api.Tok{{Text: "x", Field: g}}})
				wantRefused(t, api.Node{Kind: api.Leaf, Field: f, Terms: []api.Tok{{Text: "x", Field: f}, {Text: "y", Field: g, Pos: 1}}})
			}
		}
	}
}

// P17.1: no more than MaxDepth brackets and ! of the text stand within one another, in any mixture.
func TestShowDepth(t *testing.T) {
	x := word("x")
	for mix := range 1 << 9 {
		for _, root := range []api.Node{x, and(x, x), or(x, x)} {
			n := root
			for i := range 9 {
				switch {
				case mix>>i&1 == 1:
					n = not(n)
				case n.Kind == api.And:
					n = and(x, n)
				default:
					n = pick(new(dice(mix*9+i)), and(x, n), or(n, x), and(n, x), or(x, n, x))
				}
				want, wantErr := modelShow(usual(n))
				if got, err := query.Show(usual(n)); got != want || err != wantErr {
					t.Fatalf("Show(%v) = %q, %v; want %q, %v", n, got, err, want, wantErr)
				}
			}
		}
	}
	nots, ands, ors := x, and(x, x), or(x, x)
	for range 8 {
		nots, ands, ors = not(nots), and(x, ands), or(ors, x)
	}
	wantBack(t, usual(nots))
	wantBack(t, usual(ands))
	wantBack(t, usual(ors))
	wantBack(t, usual(or(ands, ands, nots)))
	wantRefused(t, not(nots))
	wantRefused(t, and(ands, x))
	wantRefused(t, or(x, ors))
	wantNoText(t, api.ErrQuery, usual(and(x, nots, ors, ands)))
	wantRefused(t, not(ands))
	wantNoText(t, api.ErrQuery, usual(or(x, x, not(ands))))
}

// P17.1: a tree that is nested as deep as can be is refused, or gone over, and the call ends.
func TestVeryDeep(t *testing.T) {
	for _, kind := range []int{api.Not, api.And, api.Or, 0, 9} {
		n := word("x")
		for range 1 << 16 {
			n = api.Node{Kind: kind, Kids: []api.Node{n}}
			if kind == api.And || kind == api.Or {
				n.Kids = append(n.Kids, word("y"))
			}
		}
		wantNoText(t, api.ErrQuery, usual(n))
		l, free := query.Leaves(n)
		want := 1
		if kind == api.And || kind == api.Or {
			want += 1 << 16
		}
		if len(l) != want || len(free) != want || l[0].Terms[0].Text != "x" || free[0] != (kind != api.Not) {
			t.Errorf("Leaves of 65536 nodes of the kind %d within one another: %d, %d", kind, len(l), len(free))
		}
	}
}

// P17.1: a text of 256 bytes is shown, one of 257 is too long.
func TestShowLength(t *testing.T) {
	for _, order := range []int{api.ByRank, api.ByNew} {
		for _, limit := range []int{3, 64} {
			shown := 0
			for n := 1; n <= 16; n++ {
				l := slices.Repeat([]api.Node{word("abcdefghijklmnop")}, 11)
				q := api.Query{Root: or(append(l, word("xbcdefghijklmnop"[:n]))...), Limit: limit, Order: order}
				if want, wantErr := modelShow(q); wantErr == api.OK {
					wantText(t, q, want)
					shown = max(shown, len(want))
				} else {
					wantNoText(t, api.ErrTooLong, q)
				}
			}
			if shown != 256 {
				t.Errorf("the longest text that was shown had %d bytes", shown)
			}
		}
	}
	wantNoText(t, api.ErrTooLong, usual(and(slices.Repeat([]api.Node{word("x")}, 1<<16)...)))
	wide := and(append(slices.Repeat([]api.Node{word("x")}, 1<<16), word("the"))...)
	wantNoText(t, api.ErrQuery, usual(wide))
}

// P17.1, P17.2: trees that a query may be, as the author's texts say them, with one thing turned.
func TestShowTurned(t *testing.T) {
	d := dice(5)
	times := map[api.Errno]int{}
	for range 60000 {
		q, err := query.Parse(joined(&d, draw(&d)))
		if err != api.OK {
			continue
		}
		q.Root = clone(q.Root)
		if d.roll(4) > 0 {
			turn(&d, &q)
		}
		before := clone(q.Root)
		want, wantErr := modelShow(q)
		got, e := query.Show(q)
		if got != want || e != wantErr {
			t.Fatalf("Show(%v) = %q, %v; want %q, %v", q, got, e, want, wantErr)
		}
		if !same(q.Root, before) {
			t.Fatalf("Show turned %v to %v", before, q.Root)
		}
		if times[e]++; e == api.OK {
			wantBack(t, q)
		}
	}
	if times[api.OK] < 10000 || times[api.ErrQuery] < 10000 || times[api.ErrTooLong] < 50 {
		t.Errorf("how often each error was answered: %v", times)
	}
}

// turn turns one thing of a query: mostly to what may not be, but not always.
func turn(d *dice, q *api.Query) {
	n := &q.Root
	for len(n.Kids) > 0 && d.roll(3) > 0 {
		n = &n.Kids[d.roll(len(n.Kids))]
	}
	x := pick(d, word("x"), phrase(2, "x", "", "y"), and(word("x"), word("y")), not(word("x")), or(word("x"), word("y")), api.Node{}, phrase(1), word("the"))
	switch d.roll(10) {
	case 0:
		q.Limit = pick(d, -1, 0, 1, 63, 64, 65, 1000)
	case 1:
		q.Order = pick(d, -1, 0, 1, 2)
	case 2:
		n.Kind = d.roll(6)
	case 3:
		n.Field = uint8(d.roll(6))
	case 4:
		n.Kids = append(n.Kids, x)
	case 5:
		n.Terms = append(n.Terms, api.Tok{Field: n.Field, Text: pick(d, "x", "X", "the", "", "fox"), Pos: d.roll(5)})
	case 6:
		*n = x
	case 7:
		*n = pick(d, not(*n), and(*n, x), or(*n, x), and(x, *n))
	case 8:
		if len(n.Terms) > 0 {
			i := d.roll(len(n.Terms))
			n.Terms[i].Pos += d.roll(4) - 1
		}
	case 9:
		if i := d.roll(len(n.Terms)+len(n.Kids)+1) - 1; i >= 0 && i < len(n.Kids) {
			n.Kids = slices.Delete(n.Kids, i, i+1)
		} else if i >= 0 {
			i -= len(n.Kids)
			n.Terms[i].Text = pick(d, "y", "Y", "x y", "of", "\u00e9", "\xff")
		}
	}
}

// anyTree is a tree that need not be one of a query's.
func anyTree(d *dice, deep int) api.Node {
	n := api.Node{Kind: pick(d, 0, 1, 1, 1, 2, 3, 4, 4, 5, -1, 1<<32+1, math.MinInt), Field: uint8(d.roll(256))}
	for range d.roll(3) {
		n.Terms = append(n.Terms, api.Tok{Field: uint8(d.roll(256)), Text: pick(d, words...), Pos: d.roll(10) - 5})
	}
	if deep > 0 {
		for range d.roll(4) {
			n.Kids = append(n.Kids, anyTree(d, deep-1))
		}
	}
	return n
}

// P17.1: the leaves of any tree, from the left to the right; what is handed in stays, and no two lists of the answer share any.
func TestLeaves(t *testing.T) {
	d := dice(6)
	found := 0
	for range 20000 {
		n := anyTree(&d, d.roll(7))
		before := clone(n)
		want, wantFree := modelLeaves(before)
		got, free := query.Leaves(n)
		if !slices.EqualFunc(got, want, same) || !slices.Equal(free, wantFree) {
			t.Fatalf("Leaves(%v) = %v, %v; want %v, %v", n, got, free, want, wantFree)
		}
		found += len(got)
		for i := range got {
			for j, spare := 0, got[i].Terms[:cap(got[i].Terms)]; j < len(spare); j++ {
				spare[j] = api.Tok{Field: uint8(i), Text: "turned", Pos: i}
			}
		}
		if !same(n, before) {
			t.Fatalf("the tree's own terms are handed out: %v; it was %v", n, before)
		}
		for i := range got {
			for _, x := range got[i].Terms {
				if x.Pos != i {
					t.Fatalf("two leaves share their terms")
				}
			}
		}
	}
	if found < 20000 {
		t.Errorf("only %d leaves", found)
	}
}

// P17.1: leaves by hand: a leaf alone, leaves without kids' leaves, ! within !, kinds beyond the four.
func TestLeavesByHand(t *testing.T) {
	x, y, z := word("x"), phrase(1, "y"), phrase(2, "z", "", "z")
	odd := api.Node{Kind: 7, Kids: []api.Node{x, y}}
	withKids := api.Node{Kind: api.Leaf, Field: 9, Kids: []api.Node{x, y}}
	for _, c := range []struct {
		n    api.Node
		want []api.Node
		free []bool
	}{
		{x, []api.Node{x}, []bool{true}},
		{phrase(3), []api.Node{phrase(3)}, []bool{true}},
		{api.Node{}, nil, nil},
		{api.Node{Kind: api.And}, nil, nil},
		{api.Node{Kind: api.Not}, nil, nil},
		{api.Node{Kind: api.Or, Terms: x.Terms}, nil, nil},
		{and(x, y, z), []api.Node{x, y, z}, []bool{true, true, true}},
		{or(z, and(y, x), z), []api.Node{z, y, x, z}, []bool{true, true, true, true}},
		{not(x), []api.Node{x}, []bool{false}},
		{not(not(x)), []api.Node{x}, []bool{false}},
		{not(or(x, not(y))), []api.Node{x, y}, []bool{false, false}},
		{and(x, not(y), z), []api.Node{x, y, z}, []bool{true, false, true}},
		{and(not(and(x, or(y, z))), z), []api.Node{x, y, z, z}, []bool{false, false, false, true}},
		{odd, []api.Node{x, y}, []bool{true, true}},
		{not(odd), []api.Node{x, y}, []bool{false, false}},
		{api.Node{Kind: api.Not, Kids: []api.Node{x, y}}, []api.Node{x, y}, []bool{false, false}},
		{withKids, []api.Node{{Kind: api.Leaf, Field: 9}}, []bool{true}},
		{and(withKids, not(withKids)), []api.Node{{Kind: api.Leaf, Field: 9}, {Kind: api.Leaf, Field: 9}}, []bool{true, false}},
	} {
		got, free := query.Leaves(c.n)
		if !slices.EqualFunc(got, c.want, same) || !slices.Equal(free, c.free) {
			t.Errorf("Leaves(%v) = %v, %v; want %v, %v", c.n, got, free, c.want, c.free)
		}
	}
}
