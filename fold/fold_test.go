package fold_test

import (
	"math"
	"testing"

	"plover/fold"
)

const (
	none   = 0
	letter = 1
	digit  = 2
)

// dice are numbers that only look random: the same ones in each run.
type dice uint64

func (d *dice) roll() uint32 {
	*d = *d*6364136223846793005 + 1442695040888963407
	return uint32(*d >> 32)
}

// in tells whether a number lies from a to b.
func in(r, a, b rune) bool {
	return a <= r && r <= b
}

// isLetter is the chapter's list of letters, its exceptions beside their ranges.
func isLetter(r rune) bool {
	return in(r, 'A', 'Z') || in(r, 'a', 'z') ||
		in(r, 0xC0, 0x24F) && r != 0xD7 && r != 0xF7 ||
		r == 0x386 || in(r, 0x388, 0x38A) || r == 0x38C || in(r, 0x38E, 0x3A1) || in(r, 0x3A3, 0x3CE) ||
		in(r, 0x400, 0x481) || in(r, 0x48A, 0x52F) || in(r, 0x5D0, 0x5EA) ||
		in(r, 0x4E00, 0x9FFF) || in(r, 0xAC00, 0xD7A3)
}

// modelClass is a number's class by the chapter's words.
func modelClass(r rune) int {
	switch {
	case isLetter(r):
		return letter
	case in(r, '0', '9') || in(r, 0x660, 0x669):
		return digit
	}
	return none
}

// modelFold is what a number folds to by the chapter's table, row by row.
func modelFold(r rune) rune {
	even := r%2 == 0
	switch {
	case in(r, 0x41, 0x5A), in(r, 0xC0, 0xDE) && r != 0xD7, in(r, 0x391, 0x3AB) && r != 0x3A2, in(r, 0x410, 0x42F):
		return r + 0x20
	case even && (in(r, 0x100, 0x137) || in(r, 0x14A, 0x177) || in(r, 0x460, 0x481) || in(r, 0x48A, 0x4BF) || in(r, 0x4D0, 0x52F)):
		return r + 1
	case !even && (in(r, 0x139, 0x148) || in(r, 0x179, 0x17E)):
		return r + 1
	case in(r, 0x388, 0x38A):
		return r + 0x25
	case in(r, 0x38E, 0x38F):
		return r + 0x3F
	case in(r, 0x400, 0x40F):
		return r + 0x50
	case in(r, 0x660, 0x669):
		return r - 0x630
	}
	if to, ok := map[rune]rune{0x178: 0xFF, 0x17F: 0x73, 0x386: 0x3AC, 0x38C: 0x3CC, 0x3C2: 0x3C3}[r]; ok {
		return to
	}
	return r
}

func wantClass(t *testing.T, r rune, want int) {
	t.Helper()
	if got := fold.Class(r); got != want {
		t.Errorf("Class(%x) = %d; want %d", r, got, want)
	}
}

func wantFold(t *testing.T, r, want rune) {
	t.Helper()
	if got := fold.Fold(r); got != want {
		t.Errorf("Fold(%x) = %x; want %x", r, got, want)
	}
}

// eachNumber hands over all runes, some numbers below and above them, the ends of their type, and some of all others.
func eachNumber(do func(r rune)) {
	for r := rune(-0x20000); r <= 0x120000; r++ {
		do(r)
	}
	for i := rune(0); i < 0x1000; i++ {
		do(math.MinInt32 + i)
		do(math.MaxInt32 - i)
	}
	d := dice(5)
	for range 1 << 20 {
		do(rune(d.roll()))
	}
}

// P5.1: the chapter's examples.
func TestExample(t *testing.T) {
	wantFold(t, 'A', 'a')
	wantFold(t, 0xC9, 0xE9)
	wantFold(t, 0x3A3, 0x3C3)
	wantFold(t, 0x3C2, 0x3C3)
	wantFold(t, 0x661, 0x31)
	wantClass(t, 0xD7, none)
	wantClass(t, 0x4E00, letter)
	wantClass(t, 0x661, digit)
}

// P5.1: the bounds of each range of letters and of digits, and their neighbours.
func TestClassBounds(t *testing.T) {
	for _, x := range []struct {
		first, last rune
		class       int
	}{
		{0x30, 0x39, digit}, {0x41, 0x5A, letter}, {0x61, 0x7A, letter},
		{0xC0, 0xD6, letter}, {0xD8, 0xF6, letter}, {0xF8, 0x24F, letter},
		{0x386, 0x386, letter}, {0x388, 0x38A, letter}, {0x38C, 0x38C, letter}, {0x38E, 0x3A1, letter}, {0x3A3, 0x3CE, letter},
		{0x400, 0x481, letter}, {0x48A, 0x52F, letter}, {0x5D0, 0x5EA, letter}, {0x660, 0x669, digit},
		{0x4E00, 0x9FFF, letter}, {0xAC00, 0xD7A3, letter},
	} {
		wantClass(t, x.first-1, none)
		wantClass(t, x.first, x.class)
		wantClass(t, x.last, x.class)
		wantClass(t, x.last+1, none)
	}
}

// P5.1: what the ranges of letters leave out.
func TestLeftOut(t *testing.T) {
	for _, r := range []rune{0xD7, 0xF7, 0x387, 0x38B, 0x38D, 0x3A2} {
		wantClass(t, r-1, letter)
		wantClass(t, r, none)
		wantClass(t, r+1, letter)
		wantFold(t, r, r)
	}
	for r := rune(0x482); r <= 0x489; r++ {
		wantClass(t, r, none)
		wantFold(t, r, r)
	}
}

// P5.1: the bounds of each range that folds by one number, and their neighbours.
func TestFoldBounds(t *testing.T) {
	for _, x := range [][4][2]rune{
		{{0x40, 0x40}, {0x41, 0x61}, {0x5A, 0x7A}, {0x5B, 0x5B}},
		{{0xBF, 0xBF}, {0xC0, 0xE0}, {0xD6, 0xF6}, {0xD7, 0xD7}},
		{{0xD7, 0xD7}, {0xD8, 0xF8}, {0xDE, 0xFE}, {0xDF, 0xDF}},
		{{0x387, 0x387}, {0x388, 0x3AD}, {0x38A, 0x3AF}, {0x38B, 0x38B}},
		{{0x38D, 0x38D}, {0x38E, 0x3CD}, {0x38F, 0x3CE}, {0x390, 0x390}},
		{{0x390, 0x390}, {0x391, 0x3B1}, {0x3A1, 0x3C1}, {0x3A2, 0x3A2}},
		{{0x3A2, 0x3A2}, {0x3A3, 0x3C3}, {0x3AB, 0x3CB}, {0x3AC, 0x3AC}},
		{{0x3FF, 0x3FF}, {0x400, 0x450}, {0x40F, 0x45F}, {0x410, 0x430}},
		{{0x40F, 0x45F}, {0x410, 0x430}, {0x42F, 0x44F}, {0x430, 0x430}},
		{{0x65F, 0x65F}, {0x660, 0x30}, {0x669, 0x39}, {0x66A, 0x66A}},
	} {
		for _, pair := range x {
			wantFold(t, pair[0], pair[1])
		}
	}
}

// P5.1: the ranges of which each other one folds to the next: their bounds, and the neighbours, which don't.
func TestPairBounds(t *testing.T) {
	for _, x := range []struct{ first, last rune }{
		{0x100, 0x136}, {0x139, 0x147}, {0x14A, 0x176}, {0x179, 0x17D}, {0x460, 0x480}, {0x48A, 0x4BE}, {0x4D0, 0x52E},
	} {
		for r := x.first; r <= x.last; r += 2 {
			wantFold(t, r, r+1)
			wantFold(t, r+1, r+1)
		}
	}
	for _, r := range []rune{0xFE, 0xFF, 0x138, 0x149, 0x180, 0x181, 0x182, 0x45E, 0x45F, 0x482, 0x483, 0x488, 0x489, 0x4C0, 0x4C1, 0x4CE, 0x4CF, 0x530, 0x531} {
		wantFold(t, r, r)
	}
}

// P5.1: the runes that fold each in its own way, and their neighbours.
func TestSingles(t *testing.T) {
	for _, x := range [][2]rune{
		{0x176, 0x177}, {0x177, 0x177}, {0x178, 0xFF}, {0x179, 0x17A}, {0x17E, 0x17E}, {0x17F, 0x73}, {0x180, 0x180},
		{0x385, 0x385}, {0x386, 0x3AC}, {0x387, 0x387}, {0x38B, 0x38B}, {0x38C, 0x3CC}, {0x38D, 0x38D},
		{0x3C1, 0x3C1}, {0x3C2, 0x3C3}, {0x3C3, 0x3C3},
	} {
		wantFold(t, x[0], x[1])
	}
}

// P5.1: letters that have no case here fold to themselves, though they are letters.
func TestNoCase(t *testing.T) {
	for _, r := range []rune{'a', 'z', 0xDF, 0xE0, 0xFF, 0x138, 0x149, 0x181, 0x1C4, 0x24E, 0x24F, 0x390, 0x3B0, 0x4C0, 0x4C1, 0x4CF, 0x5D0, 0x5EA, 0x4E00, 0x9FFF, 0xAC00, 0xD7A3} {
		wantClass(t, r, letter)
		wantFold(t, r, r)
	}
}

// P5.1: digits fold to 0 to 9.
func TestDigits(t *testing.T) {
	for i := rune(0); i < 10; i++ {
		wantClass(t, '0'+i, digit)
		wantClass(t, 0x660+i, digit)
		wantFold(t, '0'+i, '0'+i)
		wantFold(t, 0x660+i, '0'+i)
	}
}

// P5.1: numbers that are no rune's are of no class, and fold to themselves; so do those that differ from a letter in their upper bits only.
func TestWrong(t *testing.T) {
	for _, r := range []rune{-1, -2, -0x41, -0x30, -0x100, -0x4E00, math.MinInt32, math.MinInt32 + 1, math.MinInt32 + 0x41, math.MinInt32 + 0x100, 0xD7A4, 0xD800, 0xDFFF, 0xE000, 0xFFFD, 0xFFFF, 0x10041, 0x10100, 0x10FFFF, 0x110000, 0x110041, 0x1000041, math.MaxInt32, math.MaxInt32 - 1} {
		wantClass(t, r, none)
		wantFold(t, r, r)
	}
}

// P5.1: any number, held against the chapter's words.
func TestEachNumber(t *testing.T) {
	eachNumber(func(r rune) {
		if got, want := fold.Class(r), modelClass(r); got != want {
			t.Fatalf("Class(%x) = %d; want %d", r, got, want)
		}
		if got, want := fold.Fold(r), modelFold(r); got != want {
			t.Fatalf("Fold(%x) = %x; want %x", r, got, want)
		}
	})
}

// P5.2: what a number folds to folds to itself, and is of the same class.
func TestOnce(t *testing.T) {
	eachNumber(func(r rune) {
		to := fold.Fold(r)
		if fold.Fold(to) != to || fold.Class(to) != fold.Class(r) {
			t.Fatalf("%x of class %d folds to %x of class %d, and that to %x", r, fold.Class(r), to, fold.Class(to), fold.Fold(to))
		}
	})
}

// P5.3: no more than three runes fold to one, and three to s and to 3C3 only.
func TestFew(t *testing.T) {
	from := map[rune]int{}
	for r := rune(-0x20000); r <= 0x120000; r++ {
		from[fold.Fold(r)]++
	}
	for to, n := range from {
		most := 2
		if to == 's' || to == 0x3C3 {
			most = 3
		}
		if n > most {
			t.Errorf("%d runes fold to %x; want %d at most", n, to, most)
		}
	}
	for _, to := range []rune{'s', 0x3C3} {
		if from[to] != 3 {
			t.Errorf("%d runes fold to %x; want 3", from[to], to)
		}
	}
}
