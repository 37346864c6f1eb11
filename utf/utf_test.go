package utf_test

import (
	"math"
	"slices"
	"testing"

	"plover/utf"
)

// bad is what is read where no rune's bytes stand.
const bad = 0xFFFD

// dice are numbers that only look random: the same ones in each run.
type dice uint64

func (d *dice) roll(n int) int {
	*d = *d*6364136223846793005 + 1442695040888963407
	return int(uint64(*d) >> 33 % uint64(n))
}

// mayBe tells whether a rune may be.
func mayBe(r int) bool {
	return r >= 0 && r <= 0xD7FF || r >= 0xE000 && r <= 0x10FFFF
}

// bytesOf are the bytes of a rune that may be, by the chapter's quotients.
func bytesOf(r int) []byte {
	low := func(q int) byte { return byte(0x80 + q%64) }
	switch {
	case r < 0x80:
		return []byte{byte(r)}
	case r < 0x800:
		return []byte{byte(0xC0 + r/64), low(r)}
	case r < 0x10000:
		return []byte{byte(0xE0 + r/4096), low(r / 64), low(r)}
	}
	return []byte{byte(0xF0 + r/262144), low(r / 4096), low(r / 64), low(r)}
}

// firsts are the runes by their bytes: the chapter's words, turned round.
var firsts = func() map[string]rune {
	m := map[string]rune{}
	for r := 0; r <= 0x10FFFF; r++ {
		if mayBe(r) {
			m[string(bytesOf(r))] = rune(r)
		}
	}
	return m
}()

// modelRunes are a text's runes, by looking up the bytes that stand there.
func modelRunes(s string) []rune {
	var l []rune
	for len(s) > 0 {
		r, n := rune(bad), 1
		for w := 1; w <= min(4, len(s)); w++ {
			if x, ok := firsts[s[:w]]; ok {
				r, n = x, w
			}
		}
		l, s = append(l, r), s[n:]
	}
	return l
}

// modelText is the bytes of runes.
func modelText(l []rune) string {
	var b []byte
	for _, r := range l {
		if !mayBe(int(r)) {
			r = bad
		}
		b = append(b, bytesOf(int(r))...)
	}
	return string(b)
}

// modelFit tries all counts of runes, from the greatest one down.
func modelFit(s string, n int) string {
	l := modelRunes(s)
	for k := len(l); k > 0; k-- {
		if t := modelText(l[:k]); len(t) <= n {
			return t
		}
	}
	return ""
}

func wantRunes(t *testing.T, s string, want ...rune) {
	t.Helper()
	if got := utf.Runes(s); !slices.Equal(got, want) {
		t.Errorf("Runes(% x) = %x; want %x", s, got, want)
	}
}

func wantText(t *testing.T, l []rune, want string) {
	t.Helper()
	if got := utf.Text(l); got != want {
		t.Errorf("Text(%x) = % x; want % x", l, got, want)
	}
}

func wantFit(t *testing.T, s string, n int, want string) {
	t.Helper()
	if got := utf.Fit(s, n); got != want {
		t.Errorf("Fit(% x, %d) = % x; want % x", s, n, got, want)
	}
}

// edges are runes at both sides of each length's bound, and of what may be.
var edges = []rune{0, 1, 'a', 0x7F, 0x80, 0x7FF, 0x800, 0xFFF, 0x1000, 0xD7FF, 0xE000, 0xFFFC, 0xFFFD, 0xFFFE, 0xFFFF, 0x10000, 0x3FFFF, 0x40000, 0xFFFFF, 0x100000, 0x10FFFF}

// wrong are numbers that are no rune that may be.
var wrong = []rune{-1, -2, -128, -65536, math.MinInt32, math.MinInt32 + 1, 0xD800, 0xDBFF, 0xDC00, 0xDFFF, 0x110000, 0x1FFFFF, 0x200000, math.MaxInt32}

// scraps are bytes of which texts are put together: some are runes', some aren't.
var scraps = []string{
	"a", "Z", " ", "\x00", "\x7f", "\xc2\x80", "\xdf\xbf", "\xe0\xa0\x80", "\xed\x9f\xbf", "\xee\x80\x80", "\xef\xbf\xbd", "\xef\xbf\xbf", "\xf0\x90\x80\x80", "\xf4\x8f\xbf\xbf",
	"\x80", "\xbf", "\xc0", "\xc1", "\xc2", "\xdf", "\xe0", "\xe2", "\xe2\x82", "\xed", "\xed\xa0", "\xef", "\xf0", "\xf0\x90", "\xf0\x90\x80", "\xf4", "\xf4\x8f\xbf", "\xf5", "\xf8", "\xfe", "\xff",
	"\xc0\x80", "\xc1\xbf", "\xe0\x80\x80", "\xe0\x9f\xbf", "\xed\xa0\x80", "\xed\xbf\xbf", "\xf0\x80\x80\x80", "\xf0\x8f\xbf\xbf", "\xf4\x90\x80\x80", "\xf7\xbf\xbf\xbf", "\xf8\x88\x80\x80\x80",
}

// randomText is a text of so many scraps and single bytes.
func randomText(d *dice, n int) string {
	s := ""
	for range n {
		if d.roll(3) == 0 {
			s += string([]byte{byte(d.roll(256))})
		} else {
			s += scraps[d.roll(len(scraps))]
		}
	}
	return s
}

// P4.1: the chapter's examples.
func TestExample(t *testing.T) {
	wantRunes(t, "a\xc3\xa9", 'a', 0xE9)
	wantRunes(t, "\xe2\x82a", bad, bad, 'a')
	wantRunes(t, "\xed\xa0\x80", bad, bad, bad)
	wantFit(t, "aéb", 2, "a")
	wantFit(t, "aéb", 3, "aé")
}

// P4.1: a text without bytes has no runes, and no runes have no bytes.
func TestNothing(t *testing.T) {
	wantRunes(t, "")
	wantText(t, nil, "")
	wantText(t, []rune{}, "")
	for _, n := range []int{math.MinInt, -1, 0, 1, math.MaxInt} {
		wantFit(t, "", n, "")
	}
}

// P4.1, P4.2: each rune that may be has the bytes that the chapter says, and is read from them.
func TestEachRune(t *testing.T) {
	for r := rune(0); r <= 0x10FFFF; r++ {
		if !mayBe(int(r)) {
			continue
		}
		s := string(bytesOf(int(r)))
		if got := utf.Text([]rune{r}); got != s {
			t.Fatalf("Text(%x) = % x; want % x", r, got, s)
		}
		if got := utf.Runes(s); len(got) != 1 || got[0] != r {
			t.Fatalf("Runes(% x) = %x; want %x", s, got, r)
		}
	}
}

// P4.1: a rune that may not be is written as 0xFFFD, alone and among others.
func TestWrongRunes(t *testing.T) {
	for _, r := range wrong {
		wantText(t, []rune{r}, "\xef\xbf\xbd")
		wantText(t, []rune{'a', r, r, 0xE9}, "a\xef\xbf\xbd\xef\xbf\xbd\xc3\xa9")
	}
	for r := rune(0xD800); r <= 0xDFFF; r++ {
		wantText(t, []rune{r}, "\xef\xbf\xbd")
	}
}

// P4.1: of bytes that are no rune's each one is 0xFFFD; too long forms, halves of pairs and what is above 0x10FFFF are no rune's.
func TestWrongBytes(t *testing.T) {
	for b := 0x80; b < 0x100; b++ {
		wantRunes(t, string([]byte{byte(b)}), bad)
		wantRunes(t, "x"+string([]byte{byte(b)})+"y", 'x', bad, 'y')
	}
	for _, s := range []string{"\xc0\x80", "\xc1\xbf", "\xe0\x80\x80", "\xe0\x9f\xbf", "\xed\xa0\x80", "\xed\xbf\xbf", "\xf0\x80\x80\x80", "\xf0\x8f\xbf\xbf", "\xf4\x90\x80\x80", "\xf7\xbf\xbf\xbf", "\xf8\x88\x80\x80\x80"} {
		wantRunes(t, s, slices.Repeat([]rune{bad}, len(s))...)
		wantRunes(t, s+"a", append(slices.Repeat([]rune{bad}, len(s)), 'a')...)
	}
}

// P4.1: a text that is cut in the middle of a rune's bytes has a 0xFFFD for each byte that is left, at its end and ahead of others.
func TestCut(t *testing.T) {
	for _, r := range edges {
		s := utf.Text([]rune{r})
		for n := 1; n < len(s); n++ {
			want := slices.Repeat([]rune{bad}, n)
			wantRunes(t, s[:n], want...)
			wantRunes(t, "b"+s[:n], append([]rune{'b'}, want...)...)
			wantRunes(t, s[:n]+s, append(slices.Clone(want), r)...)
			wantRunes(t, s[:n]+"a", append(slices.Clone(want), 'a')...)
			wantRunes(t, s[n:]+"a", append(slices.Repeat([]rune{bad}, len(s)-n), 'a')...)
		}
	}
}

// P4.1: each pair of bytes, and many of three and four, are read as the chapter says.
func TestFewBytes(t *testing.T) {
	for a := range 256 {
		for b := range 256 {
			s := string([]byte{byte(a), byte(b)})
			wantRunes(t, s, modelRunes(s)...)
		}
	}
	some := []byte{0, 'a', 0x7F, 0x80, 0x8F, 0x90, 0x9F, 0xA0, 0xBF, 0xC0, 0xC2, 0xDF, 0xE0, 0xE1, 0xED, 0xEF, 0xF0, 0xF1, 0xF4, 0xF5, 0xFF}
	for _, a := range some {
		for _, b := range some {
			for _, c := range some {
				for _, d := range some {
					s := string([]byte{a, b, c, d})
					wantRunes(t, s, modelRunes(s)...)
				}
			}
		}
	}
}

// P4.1: texts of any bytes, held against the chapter's words.
func TestAnyBytes(t *testing.T) {
	d := dice(4)
	for range 2000 {
		s := randomText(&d, d.roll(20))
		l := modelRunes(s)
		wantRunes(t, s, l...)
		wantText(t, l, modelText(l))
		for n := -2; n <= 3*len(s)+2; n++ {
			wantFit(t, s, n, modelFit(s, n))
		}
	}
}

// P4.1: runes of any number, held against the chapter's words.
func TestAnyRunes(t *testing.T) {
	d := dice(5)
	for range 5000 {
		var l []rune
		for range d.roll(12) {
			switch d.roll(4) {
			case 0:
				l = append(l, edges[d.roll(len(edges))])
			case 1:
				l = append(l, wrong[d.roll(len(wrong))])
			case 2:
				l = append(l, rune(d.roll(0x120000)))
			default:
				l = append(l, rune(uint32(d.roll(1<<31))*2+uint32(d.roll(2))))
			}
		}
		wantText(t, l, modelText(l))
	}
}

// P4.1: Fit takes whole runes only, none if n is below the first one's bytes, all if n is above the text's.
func TestFit(t *testing.T) {
	for _, r := range edges {
		s := utf.Text([]rune{r})
		for n := range len(s) {
			wantFit(t, s, n, "")
			wantFit(t, "a"+s+"b", n+1, "a")
		}
		wantFit(t, s, len(s), s)
		wantFit(t, s+"a", len(s), s)
		wantFit(t, s+"a", len(s)+1, s+"a")
		wantFit(t, s+s, 2*len(s)-1, s)
	}
	for _, n := range []int{-1, -3, math.MinInt32, math.MinInt, math.MinInt + 1, math.MinInt + 3} {
		wantFit(t, "aéb", n, "")
		wantFit(t, "\xff", n, "")
	}
	for _, n := range []int{4, 5, 100, math.MaxInt32, math.MaxInt, math.MaxInt - 1} {
		wantFit(t, "aéb", n, "aéb")
	}
}

// P4.1: a greater rune that doesn't fit ends it: no later one is taken in its place.
func TestFitEnds(t *testing.T) {
	wantFit(t, "aéb", 2, "a")
	wantFit(t, "éab", 1, "")
	wantFit(t, "a\U0001F426bc", 4, "a")
}

// P4.1: what is no rune's counts as the three bytes that stand for it.
func TestFitWrong(t *testing.T) {
	wantFit(t, "\xff", 1, "")
	wantFit(t, "\xff", 2, "")
	wantFit(t, "\xff", 3, "\xef\xbf\xbd")
	wantFit(t, "a\xe2\x82b", 6, "a\xef\xbf\xbd")
	wantFit(t, "a\xe2\x82b", 7, "a\xef\xbf\xbd\xef\xbf\xbd")
	wantFit(t, "a\xe2\x82b", 8, "a\xef\xbf\xbd\xef\xbf\xbdb")
}

// P4.2: runes that may be come back from their text, and a text of nothing but such bytes from its runes.
func TestThereAndBack(t *testing.T) {
	d := dice(6)
	for range 3000 {
		var l []rune
		for range d.roll(15) {
			r := edges[d.roll(len(edges))]
			if d.roll(2) == 0 {
				r = rune(d.roll(0xD800))
			}
			l = append(l, r)
		}
		s := modelText(l)
		wantRunes(t, utf.Text(l), l...)
		wantText(t, utf.Runes(s), s)
		wantFit(t, s, len(s), s)
	}
}

// P4.3: behind a letter below 128 all is read as if nothing had stood ahead of it.
func TestByteByByte(t *testing.T) {
	d := dice(7)
	for range 3000 {
		head, tail := randomText(&d, d.roll(6)), randomText(&d, d.roll(6))
		c := rune(d.roll(128))
		s := head + string([]byte{byte(c)})
		want := append(utf.Runes(head), c)
		wantRunes(t, s, want...)
		wantRunes(t, s+tail, append(want, utf.Runes(tail)...)...)
	}
}

// P4.1: what is handed in is left as it is, its spare room too, and an answer is new memory.
func TestNewMemory(t *testing.T) {
	room := []rune{'a', -5, 0xE9, 'x', 'y'}
	if got := utf.Text(room[:3]); got != "a\xef\xbf\xbdé" {
		t.Errorf("Text = %q", got)
	}
	if want := []rune{'a', -5, 0xE9, 'x', 'y'}; !slices.Equal(room, want) {
		t.Errorf("Text changed its argument to %x", room)
	}
	a, b := utf.Runes("aéb"), utf.Runes("aéb")
	a[0] = 'z'
	_ = append(a[:1], 'q', 'r', 's', 't')
	if !slices.Equal(b, []rune{'a', 0xE9, 'b'}) {
		t.Errorf("two answers of Runes share memory: %x", b)
	}
	wantRunes(t, "aéb", 'a', 0xE9, 'b')
}
