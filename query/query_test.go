package query_test

import (
	"fmt"
	"strings"
	"testing"

	"plover/api"
	"plover/fold"
	"plover/query"
)

// phrase is a leaf of terms with their places one behind the other; an empty one stands for a place that is left out.
func phrase(field uint8, words ...string) api.Node {
	n := api.Node{Kind: api.Leaf, Field: field}
	for i, w := range words {
		if w != "" {
			n.Terms = append(n.Terms, api.Tok{Field: field, Text: w, Pos: i})
		}
	}
	return n
}

// word is a leaf of one term of the field 0.
func word(s string) api.Node { return phrase(0, s) }

func and(l ...api.Node) api.Node { return api.Node{Kind: api.And, Kids: l} }
func or(l ...api.Node) api.Node  { return api.Node{Kind: api.Or, Kids: l} }
func not(n api.Node) api.Node    { return api.Node{Kind: api.Not, Kids: []api.Node{n}} }

// usual is a query that says neither limit nor order.
func usual(root api.Node) api.Query { return api.Query{Root: root, Limit: 10, Order: api.ByRank} }

func wantQuery(t *testing.T, s string, want api.Query) {
	t.Helper()
	if got, err := query.Parse(s); !sameQuery(got, want) || err != api.OK {
		t.Errorf("Parse(%q) = %v, %v; want %v", s, got, err, want)
	}
}

func wantTree(t *testing.T, s string, want api.Node) {
	t.Helper()
	wantQuery(t, s, usual(want))
}

// wantErrors asks for one error of several texts.
func wantErrors(t *testing.T, want api.Errno, texts ...string) {
	t.Helper()
	for _, s := range texts {
		if got, err := query.Parse(s); !sameQuery(got, api.Query{}) || err != want {
			t.Errorf("Parse(%q) = %v, %v; want %v", s, got, err, want)
		}
	}
}

// P17.1: the chapter's examples.
func TestExamples(t *testing.T) {
	wantTree(t, "fox dog | 1:cat", or(and(word("fox"), word("dog")), phrase(1, "cat")))
	wantTree(t, `"the fox"`, word("fox"))
	wantTree(t, "a", word(""))
	wantErrors(t, api.ErrQuery, "fox #65")
	wantErrors(t, api.ErrDeep, "(((((((((fox")
}

// P17.1: "or" binds less than "and", "and" less than ! and brackets; one part is itself, and brackets group as they stand.
func TestTrees(t *testing.T) {
	a, b, c, d := word("x"), word("y"), word("z"), word("w")
	for s, want := range map[string]api.Node{
		"x":                 a,
		"(x)":               a,
		"((x))":             a,
		"x|y":               or(a, b),
		"x|y|z":             or(a, b, c),
		"(x|y)|z":           or(or(a, b), c),
		"x|(y|z)":           or(a, or(b, c)),
		"x y":               and(a, b),
		"x&y":               and(a, b),
		"x y z":             and(a, b, c),
		"x&y z&w":           and(a, b, c, d),
		"(x y) z":           and(and(a, b), c),
		"x(y z)":            and(a, and(b, c)),
		"x y|z w":           or(and(a, b), and(c, d)),
		"x (y|z) w":         and(a, or(b, c), d),
		"x|y&z|w":           or(a, and(b, c), d),
		"!x":                not(a),
		"!!x":               not(not(a)),
		"!x y":              and(not(a), b),
		"x!y":               and(a, not(b)),
		"x&!y":              and(a, not(b)),
		"!x|!y":             or(not(a), not(b)),
		"!(x y)":            not(and(a, b)),
		"!(x)y":             and(not(a), b),
		"(!x)":              not(a),
		"!(!(x|y)z)":        not(and(not(or(a, b)), c)),
		`x"y"z`:             and(a, b, c),
		`"x""y"`:            and(a, b),
		`"x y""z w"`:        and(phrase(0, "x", "y"), phrase(0, "z", "w")),
		"(x)(y)":            and(a, b),
		"(x|y)(z|w)":        and(or(a, b), or(c, d)),
		"x 1:y z":           and(a, phrase(1, "y"), c),
		`x1:"y"`:            {}, // the word x1 with a : behind it
		"1:x2:y":            {},
		"1:x 2:y":           and(phrase(1, "x"), phrase(2, "y")),
		`1:"x"2:"y"`:        and(phrase(1, "x"), phrase(2, "y")),
		"!3:x":              not(phrase(3, "x")),
		"(((((((x)))))))|y": or(a, b),
	} {
		if want.Kind == 0 {
			wantErrors(t, api.ErrQuery, s)
		} else {
			wantTree(t, s, want)
		}
	}
}

// P17.1: where a part can't go on, or the text ends.
func TestBroken(t *testing.T) {
	wantErrors(t, api.ErrQuery, strings.Split(`
|x
x|
x||y
&x
x&
x&&y
x&|y
x|&y
!
x!
x&!
!&x
!|x
!)
(
()
( )
(x
x)
(x))
((x)
(x|)
(|x)
(x&)
x()
)(
)
"
"x
x"
x"y
"x" "
x#
x@
x#|y
x#1|y
x#1 y
x#1&y
x#1(y)
x#1)
(x#1)
(x @new)
x @new y
x @new !y
x#1@
x#1#
#1
@new
#1 x
@new x
x:y
:
:x
x:
1:
1::x
1:1:x
1:&x
1:(x)
1:!x
1:)
1:|x
"1":x
(1):x
x,y
x.
-x
x?
x*
x'y
x_y
'x'
{x}
[x]
\
x;y
`, "\n")...)
	wantErrors(t, api.ErrQuery, "", " ", "\t\n\r ", "x\x00", "\x00", "\xff", "x\xff", "x\xc3", "\ufeffx", "x\u00a0y", "x\u3000y", "x\u2028y", "x\u00d7y", "\U0001f600")
}

// P17.1: each sign, and each other rune of a byte, alone, ahead of a word, behind one, and between two.
func TestSigns(t *testing.T) {
	for c := rune(0); c < 0x300; c++ {
		s := string(c)
		for _, x := range []string{s, s + "x", "x" + s, "x" + s + "y", s + s, "x" + s + s + "y", "(" + s + ")", "(x" + s + ")", "1" + s + "y", "x " + s + " y"} {
			wantModel(t, x)
		}
	}
	wantTree(t, "x&y", and(word("x"), word("y")))
	wantTree(t, "x|y", or(word("x"), word("y")))
	wantTree(t, "x!y", and(word("x"), not(word("y"))))
	wantTree(t, "1:y", phrase(1, "y"))
	wantErrors(t, api.ErrQuery, "x(y", "x)y", `x"y`, "x#y", "x@y")
	for _, c := range `"()&|!:#@` {
		wantErrors(t, api.ErrQuery, string(c))
	}
}

// wantModel holds Parse against the model, and what it answers against there and back (P17.2).
func wantModel(t *testing.T, s string) (q api.Query, err api.Errno) {
	t.Helper()
	want, wantErr := modelParse(s)
	got, err := query.Parse(s)
	if !sameQuery(got, want) || err != wantErr {
		t.Fatalf("Parse(%q) = %v, %v; want %v, %v", s, got, err, want, wantErr)
	}
	if err == api.OK {
		wantBack(t, got)
	}
	return got, err
}

// wantBack asks that what a query shows is read as the query.
func wantBack(t *testing.T, q api.Query) {
	t.Helper()
	shown, err := query.Show(q)
	want, wantErr := modelShow(q)
	if shown != want || err != wantErr || err != api.OK && err != api.ErrTooLong {
		t.Fatalf("Show(%v) = %q, %v; want %q, %v", q, shown, err, want, wantErr)
	}
	if err != api.OK {
		return
	}
	if back, err := query.Parse(shown); !sameQuery(back, q) || err != api.OK {
		t.Fatalf("Parse(%q) = %v, %v; want %v", shown, back, err, q)
	}
}

// P17.1: blanks of each kind between any two parts, but not in a word, nor between a field and its : ; other blanks nowhere.
func TestBlanks(t *testing.T) {
	parts := []string{"", "!", "(", "fox", "|", "1:", "dog", ")", "&", `"a b c"`, "2:", `"d"`, "#", "5", "@", "new", ""}
	plain := strings.Join(parts, "")
	want, err := query.Parse(plain)
	if err != api.OK {
		t.Fatal(plain, err)
	}
	for _, blank := range []string{" ", "\t", "\n", "\r", "  ", " \t\n\r ", "\r\n"} {
		wantQuery(t, strings.Join(parts, blank), want)
		for i := 1; i < len(parts); i++ {
			wantQuery(t, strings.Join(parts[:i], "")+blank+strings.Join(parts[i:], ""), want)
		}
		wantErrors(t, api.ErrQuery, "1"+blank+":fox", "fo"+blank+"x:y", "fox#1"+blank+"0", "fox@n"+blank+"ew", "fox 3"+blank+": dog")
		wantTree(t, "f"+blank+"x", and(word("f"), word("x")))
		wantTree(t, "0:"+blank+"1"+blank+"x", and(word("1"), word("x")))
	}
	for _, other := range []string{"\v", "\f", "\x00", "\u0085", "\u00a0", "\u2003", "\u3000", "\x1f", "\x08", "\x0e"} {
		for i := range parts {
			wantErrors(t, api.ErrQuery, strings.Join(parts[:i], "")+other+strings.Join(parts[i:], ""))
		}
	}
}

// P17.1: the words 0 to 3 with a : at once are fields, no other ones are; without a : they are words.
func TestFields(t *testing.T) {
	for f := range uint8(4) {
		d := string(rune('0' + f))
		wantTree(t, d+":fox", phrase(f, "fox"))
		wantTree(t, d+`:"fox dog"`, phrase(f, "fox", "dog"))
		wantTree(t, d+`: "fox dog"`, phrase(f, "fox", "dog"))
		wantTree(t, d+":"+d, phrase(f, d))
		wantTree(t, d+":"+d+"x", phrase(f, d+"x"))
		wantTree(t, d+`:""`, phrase(f))
		wantTree(t, d+":the", phrase(f))
		wantTree(t, d, word(d))
		wantTree(t, d+" fox", and(word(d), word("fox")))
		wantTree(t, d+`"fox"`, and(word(d), word("fox")))
		wantTree(t, "("+d+")", word(d))
		wantErrors(t, api.ErrQuery, d+" :fox", "0"+d+":fox", d+d+":fox", d+"x:fox", "x"+d+":fox", d+":", d+":"+d+":fox", d+":fox:", d+":(fox)", d+":!fox", `"`+d+`":fox`)
	}
	wantErrors(t, api.ErrQuery, "4:fox", "5:fox", "9:fox", "00:fox", "a:fox", "the:fox", "fox:dog", ":fox", "-1:fox", "/:fox", "fox 4:dog",
		"\u0660:fox", "\u0661:fox", "\u0662:fox", "\u0663:fox", "\u4e00:fox", "\xff:fox", "0\u00e9:fox")
}

// P17.1: a phrase is anything between two ".
func TestPhrases(t *testing.T) {
	for in, words := range map[string][]string{
		"":                       nil,
		" ":                      nil,
		"the":                    nil,
		"the of A":               nil,
		"()&|!:#@":               nil,
		"\xff\xc3":               nil,
		"fox":                    {"fox"},
		"the fox":                {"fox"},
		"fox the":                {"fox"},
		"fox dog":                {"fox", "dog"},
		"fox the dog":            {"fox", "", "dog"},
		"the fox of the dog":     {"fox", "", "", "dog"},
		"fox fox":                {"fox", "fox"},
		"(fox | !dog) & #1 @new": {"fox", "dog", "1", "new"},
		"1:fox":                  {"1", "fox"},
		"fox\xffdog":             {"fox", "dog"},
		"\xffFOX\n\v\x00\tDog":   {"fox", "dog"},
		"fox's":                  {"fox", "s"},
		"fox\u00d7dog":           {"fox", "dog"},
		"\u00c9t\u00c9 \u0661":   {"\u00e9t\u00e9", "1"},
		"abcdefghijklmnopq r":    {"abcdefghijklmnop", "r"},
		"(((((((((((((((":        nil,
		"!!!!!!!!!! fox ((((((":  {"fox"},
	} {
		for f := range uint8(4) {
			wantTree(t, string(rune('0'+f))+`:"`+in+`"`, phrase(f, words...))
		}
		wantTree(t, `"`+in+`"`, phrase(0, words...))
		wantTree(t, `!("`+in+`")`, not(phrase(0, words...)))
		wantErrors(t, api.ErrQuery, `"`+in, `0:"`+in, `"`+in+`""`, `x "`+in)
	}
}

// P17.1: words of one letter, stop words, words of more bytes than a term may have.
func TestWords(t *testing.T) {
	long := "abcdefghijklmnop"
	for in, want := range map[string]string{
		"x":                                "x",
		"X":                                "x",
		"7":                                "7",
		"\u00c9":                           "\u00e9",
		"\u0661":                           "1",
		"\u4e00":                           "\u4e00",
		"\uac00\uD7A3":                     "\uac00\ud7a3",
		"x1y2":                             "x1y2",
		"1x":                               "1x",
		"new":                              "new",
		"rank":                             "rank",
		long:                               long,
		long + "q":                         long,
		strings.ToUpper(long):              long,
		strings.Repeat("x", 256):           strings.Repeat("x", 16),
		strings.Repeat("\u00e9", 9):        strings.Repeat("\u00e9", 8),
		"a" + strings.Repeat("\u00e9", 8):  "a" + strings.Repeat("\u00e9", 7),
		strings.Repeat("\u017f", 17):       strings.Repeat("s", 16),
		"thee":                             "thee",
		"th":                               "th",
		"\u0456t":                          "\u0456t",
		strings.Repeat("\u4e00", 6) + "ab": strings.Repeat("\u4e00", 5),
	} {
		wantTree(t, in, word(want))
		if len(in) < 250 {
			wantTree(t, "2:"+in, phrase(2, want))
			wantTree(t, "!"+in+" "+in, and(not(word(want)), word(want)))
		}
	}
	for _, s := range strings.Fields("a an and are as at be by for in is it of on or the to") {
		for _, x := range []string{s, strings.ToUpper(s), strings.ToUpper(s[:1]) + s[1:]} {
			wantTree(t, x, word(""))
			wantTree(t, "3:"+x, phrase(3))
			wantTree(t, x+" fox", and(word(""), word("fox")))
			wantTree(t, `"`+x+` fox"`, word("fox"))
		}
	}
}

// P17.1: limits are the numbers from 0 to 64 as they are told, and stand once.
func TestLimits(t *testing.T) {
	for n := range 200 {
		d := fmt.Sprint(n)
		if n <= 64 {
			want := api.Query{Root: word("fox"), Limit: n}
			wantQuery(t, "fox#"+d, want)
			wantQuery(t, "fox # "+d+" @rank", want)
			want.Order = api.ByNew
			wantQuery(t, "fox @new#"+d, want)
			wantQuery(t, "fox#"+d+"@new", want)
		} else {
			wantErrors(t, api.ErrQuery, "fox #"+d)
		}
		wantErrors(t, api.ErrQuery, "fox #0"+d, "fox #00"+d, "fox #"+d+"x", "fox #x"+d, "fox #+"+d, "fox #-"+d, "fox # "+d+" # "+d, "fox #"+d+" #0", "fox #1 #"+d, "fox @new #"+d+" #"+d, "fox #"+d+" @new #"+d,
			"fox #"+d+":", "fox #"+d+" 1", "fox #"+d+".", `fox #"`+d+`"`, "fox #("+d+")", "#"+d+" fox", "fox #!"+d, "fox #1:"+d)
	}
	wantErrors(t, api.ErrQuery, "fox #", "fox #000", "fox #1000", "fox #0010", "fox #9999999999999999999999", "fox #1_0", "fox #0x1", "fox #\u0661", "fox #1\u0660", "fox #\u0660", "fox #\uff11", "fox #1\u00e9", "fox #new", "fox #@new", "fox #1e1", "fox #\xff", "fox #10\xff")
}

// P17.1: orders are two words just so, and stand once.
func TestOrders(t *testing.T) {
	wantQuery(t, "fox @rank", api.Query{Root: word("fox"), Limit: 10, Order: api.ByRank})
	wantQuery(t, "fox @new", api.Query{Root: word("fox"), Limit: 10, Order: api.ByNew})
	wantQuery(t, "fox @ new # 3", api.Query{Root: word("fox"), Limit: 3, Order: api.ByNew})
	wantQuery(t, "new@new", api.Query{Root: word("new"), Limit: 10, Order: api.ByNew})
	for _, x := range []string{"", "New", "NEW", "neW", "Rank", "RANK", "ran", "ranks", "ne", "news", "old", "0", "1", "new1", "newrank", "n", "\"new\"", "(new)", "!new", "new:", "1:new", "new new", "new rank", "new @new", "rank @rank", "rank @new", "new @rank", "new #1 @new", "#1", "@new", "n ew", "ra\u00f1k", "new\xff", "new.", "\u0274ew", "the"} {
		wantErrors(t, api.ErrQuery, "fox @"+x, "fox #3 @"+x)
	}
}

// P17.1: up to MaxDepth of ( and ! stand within one another, in any mixture; one more is ErrDeep where it stands, unless another error stands ahead of it.
func TestDepth(t *testing.T) {
	for mix := range 1 << 9 {
		open, shut := "", ""
		want := word("fox")
		for i := range 9 {
			if mix>>i&1 == 1 {
				open, want = "!"+open, not(want)
			} else {
				open, shut = "("+open, shut+")"
			}
		}
		// brackets alone add no node, so that the tree is just the ! around the word
		wantErrors(t, api.ErrDeep, open+"fox"+shut, open+"fox", open, open+"(", open+"|", open+"\"", strings.Join(strings.Split(open, ""), " ")+"fox", "x "+open+"fox"+shut, "x|"+open+"fox"+shut, "(x)("+open[1:])
		if open[0] == '!' {
			wantTree(t, open[1:]+"fox"+shut, want.Kids[0])
		} else {
			wantTree(t, open[1:]+"fox"+shut[1:], want)
		}
		inner := open[:8]
		wantErrors(t, api.ErrQuery, inner, inner+")", inner+"|(", inner+"&", inner+"x:(", inner+"4:!", inner+"\"(", inner+"fox #(", inner+"fox,(", inner+"\xff(", "|"+open, "x,"+open, "1 :"+open, "\""+open, "x #"+open, "x @new"+open)
	}
	wantErrors(t, api.ErrDeep, strings.Repeat("(", 256), strings.Repeat("!", 256), strings.Repeat("x(", 9), strings.Repeat("(x|", 9), strings.Repeat("!(x ", 5), strings.Repeat("(", 8)+"x!", strings.Repeat("(", 8)+"x y(", strings.Repeat("(", 8)+"x|!", strings.Repeat("(", 8)+`""(`)
}

// P17.1: what stands side by side isn't within one another.
func TestBeside(t *testing.T) {
	deep := "((((((((x))))))))"
	nots := "!!!!!!!!x"
	for _, s := range []string{deep + deep, nots + nots, nots + deep, deep + nots, deep + "|" + deep, nots + "&" + nots, "!!!!!!!!x!!!!!!!!y", "((((((((x)))))))y)", "((((((((x))))))!y))", "((((((((x))))))(y)))", "((((((((x)|y)))))))", "((((((((x y|z))))))))", "(((((((!x|!y)))))))", "(((((((!x !y (z))))))))"} {
		if _, err := wantModel(t, s); err != api.OK {
			t.Errorf("Parse(%q): %v", s, err)
		}
	}
	wantErrors(t, api.ErrDeep, "((((((((x!y))))))))", "((((((((x)((y", "(((((((!x !(y)))))))", "((((((((x)))))))((((((((!y", "!!!!!!!!x!!!!!!!!!y")
	wantErrors(t, api.ErrQuery, "((((((((x)))))))", "((((((((x)))))))))")
}

// P17.1: where a ( or ! stands too deep and no part can go on with it either, the error that is named first holds (R6).
func TestBothErrors(t *testing.T) {
	for _, s := range []string{"((((((((1:", "!!!!!!!!0:", "!(!(!(!(x 3: ", "((((((((x|2:\n"} {
		wantErrors(t, api.ErrDeep, s+"(", s+"!", s+"(x", s+"!x")
		wantErrors(t, api.ErrQuery, s, s+")", s+"|", s+"&", s+":", s+"#", s+"@", s+"\"", s+"1:", s[1:]+"(", s[1:]+"!")
	}
}

// P17.1: a text may have 256 bytes, and no more; that is asked first.
func TestLength(t *testing.T) {
	for _, fill := range []string{" ", "x", "(", "!", "\xff", "|", "x ", "\u00e9", "\"", "1:", "x|", "()", "((((((((("} {
		s := strings.Repeat(fill, 257)
		for _, n := range []int{255, 256, 257, 258, 300} {
			for _, x := range []string{s[:min(n, len(s))], s[:min(n-1, len(s))] + "y", "y" + s[:min(n-1, len(s))]} {
				wantModel(t, x)
				if len(x) > 256 {
					wantErrors(t, api.ErrTooLong, x)
				} else if _, err := query.Parse(x); err == api.ErrTooLong {
					t.Errorf("Parse of %d bytes: too long", len(x))
				}
			}
		}
	}
	wantTree(t, strings.Repeat(" ", 253)+"fox", word("fox"))
	wantErrors(t, api.ErrTooLong, strings.Repeat(" ", 254)+"fox", strings.Repeat("(", 257), strings.Repeat("\x00", 257), strings.Repeat("fox ", 1<<16))
}

// caseTwins are, of each rune, those that fold to the same one.
func caseTwins() map[rune][]rune {
	twins := map[rune][]rune{}
	for r := rune(0); r < 0x3000; r++ {
		if fold.Class(r) == 1 {
			f := fold.Fold(r)
			twins[f] = append(twins[f], r)
		}
	}
	return twins
}

// P17.3: each letter, in either case, in a word and in a phrase.
func TestCase(t *testing.T) {
	for f, l := range caseTwins() {
		for _, r := range l {
			s, small := string(r), string(f)
			want := word(small)
			if small == "a" {
				want = word("")
			}
			wantTree(t, s, want)
			wantTree(t, "x"+s+"7", word("x"+small+"7"))
			wantTree(t, `2:"y`+s+` the `+s+`z"`, phrase(2, "y"+small, "", small+"z"))
		}
	}
	wantTree(t, "FOX Dog | 1:CAT", or(and(word("fox"), word("dog")), phrase(1, "cat")))
	wantTree(t, `"THE Fox"`, word("fox"))
	wantQuery(t, "NEW @new", api.Query{Root: word("new"), Limit: 10, Order: api.ByNew})
}

// P17.3: blanks at both ends.
func TestEnds(t *testing.T) {
	for _, s := range []string{"fox", `"fox"`, "(fox)", "!fox", "0:fox", "fox dog|cat", "fox #3", "fox @new", "fox @new #3"} {
		want, err := query.Parse(s)
		if err != api.OK {
			t.Fatal(s, err)
		}
		for _, blank := range []string{" ", "\t", "\n", "\r", " \n\r\t "} {
			wantQuery(t, blank+s, want)
			wantQuery(t, s+blank, want)
			wantQuery(t, blank+s+blank, want)
		}
	}
}

// P17.1: no two lists of an answer share any, not even their spare room.
func TestOwnLists(t *testing.T) {
	s := `(fox "dog cat" | !"a b c d" 1:cow x y z) (p|q|r) u v`
	q, _ := query.Parse(s)
	var scribble func(n *api.Node)
	scribble = func(n *api.Node) {
		for i := range n.Kids {
			scribble(&n.Kids[i])
		}
		spareTerms, spareKids := n.Terms[:cap(n.Terms)], n.Kids[:cap(n.Kids)]
		for i := len(n.Terms); i < len(spareTerms); i++ {
			spareTerms[i] = api.Tok{Field: 9, Text: "spare", Pos: -1}
		}
		for i := len(n.Kids); i < len(spareKids); i++ {
			spareKids[i] = api.Node{Kind: 9}
		}
	}
	scribble(&q.Root)
	wantQuery(t, s, q)
	if want, _ := modelParse(s); !sameQuery(q, want) {
		t.Errorf("spare room is shared: %v; want %v", q, want)
	}
}
