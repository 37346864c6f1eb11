package token_test

import (
	"slices"
	"strings"
	"testing"

	"plover/api"
	"plover/fold"
	"plover/token"
	"plover/utf"
)

// dice are numbers that only look random: the same ones in each run.
type dice uint64

func (d *dice) roll(n int) int {
	*d = *d*6364136223846793005 + 1442695040888963407
	return int(uint64(*d) >> 33 % uint64(n))
}

// stops are the chapter's stop words.
var stops = strings.Split("a, an, and, are, as, at, be, by, for, in, is, it, of, on, or, the, to", ", ")

// modelTerm takes a word's runes, folded, as long as they fit.
func modelTerm(word []rune) string {
	s := ""
	for _, r := range word {
		next := s + string(fold.Fold(r))
		if len(next) > 16 {
			break
		}
		s = next
	}
	return s
}

// modelWords goes over a text rune by rune and keeps the word that is begun; the places count stop words too.
func modelWords(s string) (l []api.Tok, places int) {
	var word []rune
	for _, r := range append([]rune(s), '.') {
		if fold.Class(r) > 0 {
			word = append(word, r)
			continue
		}
		if word == nil {
			continue
		}
		if x := modelTerm(word); !slices.Contains(stops, x) {
			l = append(l, api.Tok{Text: x, Pos: places})
		}
		places++
		word = nil
	}
	return l, places
}

// modelTokens is what a document's fields give by the chapter's words.
func modelTokens(fields []string) ([]api.Tok, api.Errno) {
	if len(fields) > 4 || slices.ContainsFunc(fields, func(s string) bool { return len(s) > 512 }) {
		return nil, api.ErrTooLong
	}
	var all []api.Tok
	for i, s := range fields {
		l, _ := modelWords(s)
		for _, x := range l {
			all = append(all, api.Tok{Field: uint8(i), Text: x.Text, Pos: x.Pos})
		}
	}
	if len(all) > 64 {
		return nil, api.ErrTooLong
	}
	return all, api.OK
}

// tok is a word of the first field.
func tok(s string, pos int) api.Tok {
	return api.Tok{Text: s, Pos: pos}
}

func wantWords(t *testing.T, s string, want ...api.Tok) {
	t.Helper()
	if got := token.Words(s); !slices.Equal(got, want) {
		t.Errorf("Words(%q) = %v; want %v", s, got, want)
	}
}

func wantTokens(t *testing.T, fields []string, want []api.Tok, err api.Errno) {
	t.Helper()
	got, e := token.Tokens(fields)
	if !slices.Equal(got, want) || e != err {
		t.Errorf("Tokens(%q) = %v, %v; want %v, %v", fields, got, e, want, err)
	}
}

// scraps are what texts are put together of: letters and digits of one to three bytes, stop words, what cuts words, bytes that are no rune's.
var scraps = []string{
	"a", "B", "z", "7", "the", "The", "OF", "to", "fox", "Quick", "abcdefghijklmno", "0123456789abcdef",
	"\u00e9", "\u00c9", "\u0178", "\u017f", "\u03a3", "\u03c2", "\u0410", "\u05d0", "\u0661", "\u4e00", "\uac00", "\ud7a3",
	" ", " ", " ", "\n", "\x00", "-", "'", "_", ",", "\u00d7", "\u00a0", "\ufffd", "\u3000", "\U0001f600", "\U00020000",
	"\xff", "\x80", "\xc3", "\xe4\xb8", "\xed\xa0\x80", "\xf0\x9f",
}

// anyText is up to n scraps, one behind the other.
func anyText(d *dice, n int) string {
	var b strings.Builder
	for range d.roll(n + 1) {
		b.WriteString(scraps[d.roll(len(scraps))])
	}
	return b.String()
}

// P6.1: the chapter's examples.
func TestExample(t *testing.T) {
	wantWords(t, "The quick, QUICK fox", tok("quick", 1), tok("quick", 2), tok("fox", 3))
	wantWords(t, "a1b 2", tok("a1b", 0), tok("2", 1))
	wantTokens(t, make([]string, 5), nil, api.ErrTooLong)
}

// P6.1: each stop word, and what differs from it by a letter, by case or by what stands about it.
func TestStop(t *testing.T) {
	for _, s := range stops {
		if !token.Stop(s) {
			t.Errorf("Stop(%q) = false", s)
		}
		for _, x := range []string{strings.ToUpper(s), s + " ", " " + s, s + "s", "x" + s, s + "\x00", s + s, s[:len(s)-1], s[1:]} {
			if want := slices.Contains(stops, x); token.Stop(x) != want {
				t.Errorf("Stop(%q) = %v", x, !want)
			}
		}
	}
	for _, s := range []string{"", "fox", "i", "o", "but", "not", "with", "\xff", strings.Repeat("the", 1000)} {
		if token.Stop(s) {
			t.Errorf("Stop(%q) = true", s)
		}
	}
}

// P6.1: of all terms of up to three letters just the chapter's are stop words.
func TestShortTerms(t *testing.T) {
	terms, n := []string{""}, 0
	for range 3 {
		var longer []string
		for _, s := range terms {
			for c := 'a'; c <= 'z'; c++ {
				longer = append(longer, s+string(c))
			}
		}
		for _, s := range longer {
			if token.Stop(s) {
				n++
			}
			if token.Stop(s) != slices.Contains(stops, s) {
				t.Errorf("Stop(%q) = %v", s, token.Stop(s))
			}
		}
		terms = longer
	}
	if n != 17 {
		t.Errorf("%d stop words; want 17", n)
	}
}

// P6.1: stop words have places, whatever their case, and are left out.
func TestStopsAlone(t *testing.T) {
	wantWords(t, "the")
	wantWords(t, "The AND a\tTo")
	wantWords(t, strings.Join(stops, " "))
	wantWords(t, strings.Join(stops, " ")+" x", tok("x", len(stops)))
	wantWords(t, "x of the x", tok("x", 0), tok("x", 3))
	wantWords(t, "i\u017f x", tok("x", 1)) // the long s folds to s
	wantTokens(t, []string{"the a", "OF", "", "to"}, nil, api.OK)
}

// P6.1: texts without words.
func TestNoWords(t *testing.T) {
	for _, s := range []string{"", " ", ".", "   ,;\n\t", "\x00", "\xff", "\xed\xa0\x80\xc0", "\u00d7\u00f7", "\ufffd", "\U0001f600", strings.Repeat("-", 1000)} {
		wantWords(t, s)
	}
	for n := 0; n <= 4; n++ {
		wantTokens(t, make([]string, n), nil, api.OK)
	}
}

// P6.1: words at both ends of a text, and one that is all of it.
func TestEnds(t *testing.T) {
	wantWords(t, "fox", tok("fox", 0))
	wantWords(t, "x", tok("x", 0))
	wantWords(t, " fox", tok("fox", 0))
	wantWords(t, "fox ", tok("fox", 0))
	wantWords(t, "--fox--red--", tok("fox", 0), tok("red", 1))
	wantWords(t, "red fox", tok("red", 0), tok("fox", 1))
	wantWords(t, "red the", tok("red", 0))
	wantWords(t, "the red", tok("red", 1))
	wantWords(t, "x y z 1", tok("x", 0), tok("y", 1), tok("z", 2), tok("1", 3))
}

// P6.1: each rune that is no letter or digit cuts, and bytes that are no rune's do.
func TestCuts(t *testing.T) {
	for _, s := range []string{" ", "\n", "\x00", "'", "-", "_", "/", ":", "@", "[", "`", "{", "\x7f", "\u00bf", "\u00d7", "\u0250", "\u0482", "\ufffd", "\U00010000", "\xff", "\x80", "\xc3", "\xe4\xb8", "\xed\xa0\x80", "\xf8\x88\x80\x80\x80"} {
		wantWords(t, "fox"+s+"red", tok("fox", 0), tok("red", 1))
		wantWords(t, s+"fox"+s+s+"red"+s, tok("fox", 0), tok("red", 1))
	}
	for _, s := range []string{"7", "x", "\u00e9", "\u024f", "\u4e00", "\ud7a3", "\u05ea"} {
		wantWords(t, "fox"+s+"red", tok("fox"+s+"red", 0))
	}
	wantWords(t, "fo\u0669x", tok("fo9x", 0))
}

// P6.1: words that are longer than a term may be: no rune is cut in two, and none behind the first that doesn't fit is taken.
func TestLongWords(t *testing.T) {
	x := strings.Repeat("x", 17)
	for n := 1; n <= 17; n++ {
		wantWords(t, x[:n], tok(x[:min(n, 16)], 0))
	}
	wantWords(t, x[:15]+"\u00e9y", tok(x[:15], 0))
	wantWords(t, x[:14]+"\u00e9y", tok(x[:14]+"\u00e9", 0))
	wantWords(t, x[:14]+"\u4e00y", tok(x[:14], 0))
	wantWords(t, x[:13]+"\u4e00y", tok(x[:13]+"\u4e00", 0))
	wantWords(t, strings.Repeat("\u4e00", 6), tok(strings.Repeat("\u4e00", 5), 0))
	wantWords(t, strings.Repeat("\u00c9", 9), tok(strings.Repeat("\u00e9", 8), 0))
	wantWords(t, strings.Repeat("y", 1<<20)+" z", tok(strings.Repeat("y", 16), 0), tok("z", 1))
	wantWords(t, x[:16]+"a "+x[:16]+"b", tok(x[:16], 0), tok(x[:16], 1))
	// The bytes of the folded runes count, not of those that stand there.
	wantWords(t, strings.Repeat("\u017f", 17), tok(strings.Repeat("s", 16), 0))
	wantWords(t, strings.Repeat("\u0661", 20), tok(strings.Repeat("1", 16), 0))
	wantWords(t, "the\u0660"+x, tok("the0"+x[:12], 0))
}

// P6.1: each word has its field's number, its places are counted from 0 on in each field.
func TestFields(t *testing.T) {
	wantTokens(t, nil, nil, api.OK)
	wantTokens(t, []string{"The red fox", "", "fox", "a b"}, []api.Tok{
		{Field: 0, Text: "red", Pos: 1}, {Field: 0, Text: "fox", Pos: 2},
		{Field: 2, Text: "fox", Pos: 0}, {Field: 3, Text: "b", Pos: 1},
	}, api.OK)
	wantTokens(t, []string{"red", "fox"}, []api.Tok{{Field: 0, Text: "red"}, {Field: 1, Text: "fox"}}, api.OK)
}

// P6.1: one field more than there may be, whatever stands in the fields.
func TestTooManyFields(t *testing.T) {
	wantTokens(t, []string{"x", "x", "x", "x"}, []api.Tok{{Text: "x"}, {Field: 1, Text: "x"}, {Field: 2, Text: "x"}, {Field: 3, Text: "x"}}, api.OK)
	wantTokens(t, []string{"x", "x", "x", "x", "x"}, nil, api.ErrTooLong)
	wantTokens(t, []string{"x", "x", "x", "x", ""}, nil, api.ErrTooLong)
	wantTokens(t, make([]string, 1000), nil, api.ErrTooLong)
}

// P6.1: a field at its most bytes, and one byte beyond, as each of the fields.
func TestTooLongField(t *testing.T) {
	most := strings.Repeat("y", 511) + "z"
	for i := range 4 {
		fields := []string{"x", "x", "x", "x"}
		want := []api.Tok{{Text: "x"}, {Field: 1, Text: "x"}, {Field: 2, Text: "x"}, {Field: 3, Text: "x"}}
		fields[i], want[i].Text = most, most[:16]
		wantTokens(t, fields, want, api.OK)
		for _, s := range []string{" ", "x", "\xff"} {
			fields[i] = most + s
			wantTokens(t, fields, nil, api.ErrTooLong)
			fields[i] = s + most
			wantTokens(t, fields, nil, api.ErrTooLong)
		}
	}
	wantTokens(t, []string{strings.Repeat(" ", 512)}, nil, api.OK)
	wantTokens(t, []string{strings.Repeat(" ", 513)}, nil, api.ErrTooLong)
	wantTokens(t, []string{strings.Repeat("\u4e00", 170) + "  "}, []api.Tok{{Text: strings.Repeat("\u4e00", 5)}}, api.OK)
	wantTokens(t, []string{strings.Repeat("\u4e00", 171)}, nil, api.ErrTooLong) // few runes, but 513 bytes
}

// P6.1: a document at the most words, and one beyond, in one field or in all of them; stop words don't count.
func TestTooManyWords(t *testing.T) {
	var all []api.Tok
	for i := range 64 {
		all = append(all, tok("x", i))
	}
	wantTokens(t, []string{strings.Repeat("x ", 64)}, all, api.OK)
	wantTokens(t, []string{strings.Repeat("x ", 65)}, nil, api.ErrTooLong)
	wantTokens(t, []string{strings.Repeat("x ", 64) + strings.Repeat("a ", 192)}, all, api.OK)
	wantTokens(t, []string{strings.Repeat("x ", 64), "the", "of", "to"}, all, api.OK)
	wantTokens(t, []string{strings.Repeat("x ", 64), "", "", "x"}, nil, api.ErrTooLong)
	for i := range all {
		all[i] = api.Tok{Field: uint8(i / 16), Text: "x", Pos: i % 16 * 2}
	}
	field := strings.Repeat("x the ", 16)
	wantTokens(t, []string{field, field, field, field}, all, api.OK)
	wantTokens(t, []string{field, field, field, field + "x"}, nil, api.ErrTooLong)
	wantTokens(t, []string{"x " + field, field, field, field}, nil, api.ErrTooLong)
	wantTokens(t, []string{strings.Repeat("the ", 128)}, nil, api.OK)
	// Words takes any text.
	if n := len(token.Words(strings.Repeat("x ", 5000))); n != 5000 {
		t.Errorf("Words of 5000 words: %d", n)
	}
}

// P6.1: any texts and any fields, held against the chapter's words.
func TestAgainstModel(t *testing.T) {
	d := dice(6)
	for range 20000 {
		s := anyText(&d, 30)
		want, _ := modelWords(s)
		wantWords(t, s, want...)
	}
	errs := map[api.Errno]int{}
	for range 20000 {
		var fields []string
		for range d.roll(6) {
			fields = append(fields, anyText(&d, []int{10, 60, 280}[d.roll(3)]))
		}
		want, err := modelTokens(fields)
		wantTokens(t, fields, want, err)
		errs[err]++
	}
	if errs[api.OK] < 1000 || errs[api.ErrTooLong] < 1000 {
		t.Errorf("the texts are too much alike: %v", errs)
	}
}

// P6.1: what is handed in is left as it is, its spare room too, and an answer is new memory.
func TestNewMemory(t *testing.T) {
	all := []string{"red fox", "x", "y", "z", "spare"}
	fields := all[:2]
	first, _ := token.Tokens(fields)
	second, _ := token.Tokens(fields)
	if !slices.Equal(all, []string{"red fox", "x", "y", "z", "spare"}) {
		t.Errorf("the fields have become %q", all)
	}
	for _, x := range [][2][]api.Tok{{first, second}, {token.Words("red fox"), token.Words("red fox")}} {
		old := slices.Clone(x[1])
		clear(x[0][:cap(x[0])])
		if !slices.Equal(x[1], old) {
			t.Errorf("one answer has changed with another: %v; was %v", x[1], old)
		}
	}
	fields[0] = "changed"
	if !slices.Equal(second, []api.Tok{tok("red", 0), tok("fox", 1), {Field: 1, Text: "x"}}) {
		t.Errorf("an answer has changed with the fields: %v", second)
	}
}

// otherCase puts another rune that folds to the same one in the place of some of a text's runes.
func otherCase(d *dice, l []rune, same map[rune][]rune) []rune {
	var to []rune
	for _, r := range l {
		if k := same[fold.Fold(r)]; len(k) > 0 {
			r = k[d.roll(len(k))]
		}
		to = append(to, r)
	}
	return to
}

// P6.2: texts that differ in case alone have the same words.
func TestCase(t *testing.T) {
	same := map[rune][]rune{}
	for r := rune(0); r < 0x700; r++ {
		same[fold.Fold(r)] = append(same[fold.Fold(r)], r)
	}
	d := dice(62)
	for range 20000 {
		l := utf.Runes(anyText(&d, 30))
		for range d.roll(20) {
			l = append(l, rune(d.roll(0x700)))
		}
		one, other := utf.Text(l), utf.Text(otherCase(&d, l, same))
		wantWords(t, other, token.Words(one)...)
	}
	wantWords(t, "THE \u00c9T\u00c9 \u03a3\u03a3 \u0178\u017f \u0663", token.Words("the \u00e9t\u00e9 \u03c3\u03c2 \u00ffS 3")...)
	wantWords(t, "\u00c9t\u00c9", tok("\u00e9t\u00e9", 0))
}

// P6.3: of two texts with a blank between them the words are those of both.
func TestOneBehindTheOther(t *testing.T) {
	d := dice(63)
	for range 20000 {
		one, other := anyText(&d, 20), anyText(&d, 20)
		want := token.Words(one)
		_, places := modelWords(one)
		for _, x := range token.Words(other) {
			want = append(want, tok(x.Text, x.Pos+places))
		}
		wantWords(t, one+" "+other, want...)
	}
	wantWords(t, "red the"+" "+"a fox", tok("red", 0), tok("fox", 3))
	wantWords(t, ""+" "+"fox", tok("fox", 0))
	wantWords(t, "fox\xe4"+" "+"\xb8\x80red", tok("fox", 0), tok("red", 1))
}
