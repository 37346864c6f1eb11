package query_test

import (
	"strings"
	"testing"

	"plover/api"
	"plover/fold"
	"plover/query"
)

// words are of all sorts: of one letter, stop words, digits, of two and three bytes a rune, longer than a term, what is said behind # and @.
var words = []string{"x", "a", "7", "0", "1", "3", "4", "10", "64", "65", "the", "The", "OF", "fox", "Fox", "DOG", "new", "rank", "New", "\u00e9", "\u00c9t\u00e9", "\u017fo", "\u03c2", "\u0661", "\u4e00", "abcdefghijklmnopqr", "ABCDEFGHIJKLMNO\u00c9"}

// scraps are what isn't a word: signs, blanks, runes and bytes that no query has.
var scraps = []string{"\"", "\"", "(", ")", "&", "|", "!", ":", "#", "@", " ", "\t", "\n", "\r", "\v", "\u00a0", ",", "-", "\x00", "\xff", "\xc3", "\xe4\xb8", "\u00d7", "\U0001f600"}

// author draws texts out of the grammar.
type author struct {
	*dice
	parts []string
	deep  int // how many ( and ! may still be opened
	size  int // how much a text may branch
}

func (w *author) put(l ...string) { w.parts = append(w.parts, l...) }

// more tells whether one part more comes; the longer the text is, the more seldom.
func (w *author) more() bool {
	w.size--
	return w.size > 0 && w.roll(5) < 2
}

func (w *author) or() {
	w.and()
	for w.more() {
		w.put("|")
		w.and()
	}
}

func (w *author) and() {
	w.not()
	for w.more() {
		if w.roll(2) == 0 {
			w.put("&")
		}
		w.not()
	}
}

func (w *author) not() {
	if w.deep == 0 || w.roll(5) < 2 {
		w.leaf()
		return
	}
	w.deep--
	if w.roll(2) == 0 {
		w.put("!")
		w.not()
	} else {
		w.put("(")
		w.or()
		w.put(")")
	}
	w.deep++
}

func (w *author) leaf() {
	field := ""
	if w.roll(3) == 0 {
		field = pick(w.dice, "0:", "1:", "2:", "3:")
	}
	if w.roll(3) > 0 {
		w.put(field, pick(w.dice, words...))
		return
	}
	var inner []string
	for range w.roll(6) {
		inner = append(inner, pick(w.dice, words...), pick(w.dice, scraps[2:]...))
	}
	w.put(field, `"`+strings.Join(inner, "")+`"`)
}

// tail is limits and orders.
func (w *author) tail() {
	limit := []string{"#", pick(w.dice, "0", "1", "9", "10", "42", "64")}
	order := []string{"@", pick(w.dice, "new", "rank")}
	switch w.roll(6) {
	case 0:
		w.put(limit...)
	case 1:
		w.put(order...)
	case 2:
		w.put(append(limit, order...)...)
	case 3:
		w.put(append(order, limit...)...)
	}
}

// draw is the parts of a text.
func draw(d *dice) []string {
	w := author{dice: d, deep: pick(d, 0, 2, 8, 8, 9), size: pick(d, 0, 4, 12, 60)}
	w.or()
	w.tail()
	return w.parts
}

// joined is the parts with blanks between, and where two words would run together at least one.
func joined(d *dice, parts []string) string {
	s := ""
	for _, p := range parts {
		if d.roll(4) == 0 || letterEnds(s) && letterBegins(p) {
			s += pick(d, " ", "\t", "\n", "\r", "  ", "\r\n")
		}
		s += p
	}
	return s
}

func letterEnds(s string) bool {
	l := []rune(s)
	return len(l) > 0 && fold.Class(l[len(l)-1]) > 0
}

func letterBegins(s string) bool {
	l := []rune(s)
	return len(l) > 0 && fold.Class(l[0]) > 0
}

// P17.1, P17.2: texts out of the grammar are read as the model reads them, and there and back.
func TestGrammar(t *testing.T) {
	d := dice(1)
	times := map[api.Errno]int{}
	for range 40000 {
		_, err := wantModel(t, joined(&d, draw(&d)))
		times[err]++
	}
	if times[api.OK] < 20000 || times[api.ErrDeep] < 200 || times[api.ErrTooLong] < 10 {
		t.Errorf("how often each error was answered: %v", times)
	}
}

// P17.1, P17.2: texts out of the grammar with parts put in, left out, turned, or doubled.
func TestTurned(t *testing.T) {
	d := dice(2)
	times := map[api.Errno]int{}
	for range 120000 {
		l := draw(&d)
		for range 1 + d.roll(2) {
			i := d.roll(len(l) + 1)
			switch j := min(i+1, len(l)); d.roll(5) {
			case 0: // left out
				l = append(l[:i:i], l[j:]...)
			case 1: // put in
				l = append(append(l[:i:i], pick(&d, scraps...)), l[i:]...)
			case 2:
				l = append(append(l[:i:i], pick(&d, words...)), l[i:]...)
			case 3: // another one
				l = append(append(l[:i:i], pick(&d, scraps...)), l[j:]...)
			case 4: // two that change their places
				if i+1 < len(l) {
					l[i], l[i+1] = l[i+1], l[i]
				}
			}
		}
		_, err := wantModel(t, joined(&d, l))
		times[err]++
	}
	if times[api.OK] < 10000 || times[api.ErrQuery] < 30000 || times[api.ErrDeep] < 500 {
		t.Errorf("how often each error was answered: %v", times)
	}
}

// P17.1: any scraps and any bytes.
func TestAnyBytes(t *testing.T) {
	d := dice(3)
	times := map[api.Errno]int{}
	for range 60000 {
		var b strings.Builder
		for range d.roll(12) {
			b.WriteString(pick(&d, pick(&d, words...), pick(&d, words...), pick(&d, scraps...)))
		}
		_, err := wantModel(t, b.String())
		times[err]++
	}
	for range 20000 {
		b := make([]byte, d.roll(20))
		for i := range b {
			b[i] = byte(d.roll(256))
		}
		wantModel(t, string(b))
	}
	for range 60000 { // few signs, so that many are queries
		b := make([]byte, d.roll(10))
		for i := range b {
			b[i] = pick(&d, []byte(`xy01"()&|!: #@new`)...)
		}
		_, err := wantModel(t, string(b))
		times[err]++
	}
	if times[api.OK] < 2000 {
		t.Errorf("how often each error was answered: %v", times)
	}
}

// P17.1: all texts of up to five of these parts.
func TestAllShort(t *testing.T) {
	parts := []string{"x", "the", "1", `"`, "(", ")", "&", "|", "!", ":", "#", "@", " ", "new"}
	texts := []string{""}
	for range 5 {
		var longer []string
		for _, s := range texts {
			for _, p := range parts {
				longer = append(longer, s+p)
			}
		}
		for _, s := range longer {
			wantModel(t, s)
		}
		texts = longer
	}
}

// P17.3: a text with other letters that fold to the same ones, and blanks at both ends, says the same tree.
func TestCaseDrawn(t *testing.T) {
	d := dice(4)
	twins := caseTwins()
	for range 20000 {
		l := draw(&d)
		plain := strings.Join(l, " ")
		want, err := query.Parse(plain)
		for i, p := range l {
			if i > 0 && l[i-1] == "@" {
				continue // an order is a word just so
			}
			var turned []rune
			for _, r := range p {
				if same := twins[fold.Fold(r)]; fold.Class(r) == 1 && len(same) > 0 {
					r = pick(&d, same...)
				}
				turned = append(turned, r)
			}
			l[i] = string(turned)
		}
		s := strings.Repeat(pick(&d, " ", "\t", "\n", "\r"), d.roll(3)) + strings.Join(l, " ") + strings.Repeat(pick(&d, " ", "\n"), d.roll(3))
		if len(s) > 256 || len(plain) > 256 {
			continue
		}
		if got, e := query.Parse(s); !sameQuery(got, want) || e != err {
			t.Fatalf("Parse(%q) = %v, %v; of %q %v, %v", s, got, e, plain, want, err)
		}
	}
}
