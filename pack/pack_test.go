package pack_test

import (
	"math"
	"slices"
	"strings"
	"testing"

	"plover/api"
	"plover/pack"
)

// dice are numbers that only look random: the same ones in each run.
type dice uint64

func (d *dice) roll(n int) int {
	*d = *d*6364136223846793005 + 1442695040888963407
	return int(uint64(*d) >> 33 % uint64(n))
}

// anyText is n bytes of any value.
func anyText(d *dice, n int) string {
	b := make([]byte, n)
	for i := range b {
		b[i] = byte(d.roll(256))
	}
	return string(b)
}

// filled is a text up to the end of its last cell.
func filled(s string) string {
	for len(s)%4 != 0 {
		s += "\x00"
	}
	return s
}

// modelCells takes four bytes at a time off a text that is filled up.
func modelCells(s string) (l []uint32) {
	for s = filled(s); s != ""; s = s[4:] {
		l = append(l, uint32(s[0])+256*uint32(s[1])+65536*uint32(s[2])+16777216*uint32(s[3]))
	}
	return l
}

// modelBytes takes each cell apart by quotients.
func modelBytes(l []uint32, n int) (string, api.Errno) {
	if n < 0 {
		return "", api.ErrArg
	}
	var b []byte
	for _, c := range l {
		b = append(b, byte(c%256), byte(c/256%256), byte(c/65536%256), byte(c/16777216))
	}
	if n > len(b) {
		return "", api.ErrShort
	}
	return string(b[:n]), api.OK
}

// modelHash counts in 64 bits, where nothing wraps round, and cuts down by the chapter's modulo.
func modelHash(s string) uint32 {
	h := uint64(2166136261)
	for _, x := range []byte(s) {
		h = (h ^ uint64(x)) * 16777619 % (1 << 32)
	}
	return uint32(h)
}

func wantWord(t *testing.T, doc, pos int, want uint32, err api.Errno) {
	t.Helper()
	if w, e := pack.Word(doc, pos); w != want || e != err {
		t.Errorf("Word(%d, %d) = %d, %v; want %d, %v", doc, pos, w, e, want, err)
	}
}

func wantPart(t *testing.T, w uint32, doc, pos int) {
	t.Helper()
	if d, p := pack.Part(w); d != doc || p != pos {
		t.Errorf("Part(%d) = %d, %d; want %d, %d", w, d, p, doc, pos)
	}
}

func wantKey(t *testing.T, field uint8, term string, want ...byte) {
	t.Helper()
	if s := pack.Key(field, term); s != string(want) {
		t.Errorf("Key(%d, %q) = %q; want %q", field, term, s, want)
	}
}

func wantCells(t *testing.T, s string, want ...uint32) {
	t.Helper()
	if l := pack.Cells(s); !slices.Equal(l, want) {
		t.Errorf("Cells(%q) = %#x; want %#x", s, l, want)
	}
}

func wantBytes(t *testing.T, l []uint32, n int, want string, err api.Errno) {
	t.Helper()
	if s, e := pack.Bytes(l, n); s != want || e != err {
		t.Errorf("Bytes(%#x, %d) = %q, %v; want %q, %v", l, n, s, e, want, err)
	}
}

func wantHash(t *testing.T, s string, want uint32) {
	t.Helper()
	if h := pack.Hash(s); h != want {
		t.Errorf("Hash(%q) = %d; want %d", s, h, want)
	}
}

// P7.1: the chapter's examples.
func TestExample(t *testing.T) {
	wantWord(t, 1, 2, 65538, api.OK)
	wantCells(t, "abcde", 0x64636261, 0x65)
	wantHash(t, "", 2166136261)
	wantHash(t, "a", 3826002220)
}

// P7.1: places at their limits and within them.
func TestWord(t *testing.T) {
	wantWord(t, 0, 0, 0, api.OK)
	wantWord(t, 0, 1, 1, api.OK)
	wantWord(t, 1, 0, 65536, api.OK)
	wantWord(t, 0, 65535, 65535, api.OK)
	wantWord(t, 65535, 0, 4294901760, api.OK)
	wantWord(t, 65535, 65535, math.MaxUint32, api.OK)
	wantWord(t, 32768, 32767, 2147516415, api.OK)
	wantWord(t, 32767, 32768, 2147450880, api.OK)
	for n := range 65536 {
		wantWord(t, n, 65535-n, uint32(65535*n+65535), api.OK)
		wantWord(t, n, 7, uint32(65536*n+7), api.OK)
		wantWord(t, 7, n, uint32(458752+n), api.OK)
	}
}

// P7.1: a doc or a pos that is none, beside any other one; no word is answered beside the error.
func TestWordRefuses(t *testing.T) {
	wrong := []int{-1, -2, -65535, -65536, -65537, 65536, 65537, 131072, math.MaxInt32, math.MinInt32, math.MinInt, math.MinInt + 1, math.MaxInt, math.MaxInt - 65535}
	for _, x := range wrong {
		for _, y := range append([]int{0, 1, 2, 65535}, wrong...) {
			wantWord(t, x, y, 0, api.ErrArg)
			wantWord(t, y, x, 0, api.ErrArg)
		}
	}
}

// P7.1: the doc and the pos of words at their limits and within them.
func TestPart(t *testing.T) {
	wantPart(t, 0, 0, 0)
	wantPart(t, 1, 0, 1)
	wantPart(t, 65535, 0, 65535)
	wantPart(t, 65536, 1, 0)
	wantPart(t, 65538, 1, 2)
	wantPart(t, 1<<31-1, 32767, 65535)
	wantPart(t, 1<<31, 32768, 0)
	wantPart(t, 4294901760, 65535, 0)
	wantPart(t, math.MaxUint32, 65535, 65535)
	for n := range 65536 {
		wantPart(t, uint32(65536*n+65535-n), n, 65535-n)
	}
}

// P7.1: every field's byte is one byte, whatever stands behind it.
func TestKey(t *testing.T) {
	for f := range 256 {
		field := uint8(f)
		wantKey(t, field, "", field)
		wantKey(t, field, "fox", field, 'f', 'o', 'x')
		wantKey(t, field, "\x00", field, 0)
		wantKey(t, field, "\u00e9\xff\x80", field, 0xC3, 0xA9, 0xFF, 0x80)
		long := strings.Repeat("x", 1000)
		wantKey(t, field, long, append([]byte{field}, long...)...)
	}
}

// P7.1: texts of no byte to nine bytes, their first byte in the lowest eight bits, the last cell filled up with 0.
func TestCells(t *testing.T) {
	wantCells(t, "")
	wantCells(t, "a", 0x61)
	wantCells(t, "ab", 0x6261)
	wantCells(t, "abc", 0x636261)
	wantCells(t, "abcd", 0x64636261)
	wantCells(t, "abcdef", 0x64636261, 0x6665)
	wantCells(t, "abcdefg", 0x64636261, 0x676665)
	wantCells(t, "abcdefgh", 0x64636261, 0x68676665)
	wantCells(t, "abcdefghi", 0x64636261, 0x68676665, 0x69)
	wantCells(t, "\x00fox", 0x786F6600)
	wantCells(t, "\x80", 0x80)
	wantCells(t, "\xff\xff\xff\xff\xff", 0xFFFFFFFF, 0xFF)
	wantCells(t, "\x00\x00\x00\x00\x01", 0, 1)
	wantCells(t, "\u00e9\u4e00", 0xB8E4A9C3, 0x80)
	// What the last cell is filled up with is as 0 that stands there.
	for n := range 5 {
		wantCells(t, strings.Repeat("\x00", n), make([]uint32, (n+3)/4)...)
		wantCells(t, "abcd"+strings.Repeat("\x00", n), append([]uint32{0x64636261}, make([]uint32, (n+3)/4)...)...)
	}
}

// P7.1: each byte's value at each place of a cell.
func TestEveryByte(t *testing.T) {
	for x := range 256 {
		for at := range 9 {
			b := make([]byte, 9)
			b[at] = byte(x)
			want := make([]uint32, 3)
			want[at/4] = uint32(x) << (8 * (at % 4))
			wantCells(t, string(b), want...)
			wantBytes(t, want, 9, string(b), api.OK)
		}
	}
}

// P7.1: the first bytes of cells, from none to all; what stands behind them plays no part.
func TestBytes(t *testing.T) {
	l := []uint32{0x64636261, 0x00FF8065, 0xFFFFFFFF}
	all := "abcde\x80\xff\x00\xff\xff\xff\xff"
	for n := 0; n <= 12; n++ {
		wantBytes(t, l, n, all[:n], api.OK)
		wantBytes(t, l[:(n+3)/4], n, all[:n], api.OK) // just as many cells as they take
	}
	wantBytes(t, nil, 0, "", api.OK)
	wantBytes(t, []uint32{}, 0, "", api.OK)
	wantBytes(t, []uint32{0x786F6600}, 4, "\x00fox", api.OK)
	wantBytes(t, []uint32{0}, 3, "\x00\x00\x00", api.OK)
}

// P7.1: fewer than no bytes, whatever the cells are; more bytes than there are, and no more is answered beside the error.
func TestBytesRefuses(t *testing.T) {
	room := []uint32{0x64636261, 0x68676665, 0x6C6B6A69, 0x706F6E6D}
	for k := range 4 {
		l := room[:k] // the cells behind are not l's
		for _, n := range []int{-1, -2, -3, -4, -5, -4 * k, -4*k - 1, math.MinInt32, math.MinInt, math.MinInt + 1, math.MinInt + 4} {
			if n < 0 {
				wantBytes(t, l, n, "", api.ErrArg)
			}
		}
		for _, n := range []int{4*k + 1, 4*k + 2, 4*k + 3, 4*k + 4, 4*k + 5, 1000, math.MaxInt32, math.MaxInt - 4, math.MaxInt - 3, math.MaxInt - 2, math.MaxInt - 1, math.MaxInt} {
			wantBytes(t, l, n, "", api.ErrShort)
		}
	}
	wantBytes(t, nil, 1, "", api.ErrShort)
	wantBytes(t, nil, -1, "", api.ErrArg)
}

// P7.1: hashes that are written down, of longer texts too, and of each byte alone.
func TestHash(t *testing.T) {
	wantHash(t, "\x00", 84696351)
	wantHash(t, "b", 3876335077)
	wantHash(t, "foobar", 0xBF9CF968)
	wantHash(t, strings.Repeat("a", 1000), modelHash(strings.Repeat("a", 1000)))
	for x := range 256 {
		s := string([]byte{byte(x)})
		wantHash(t, s, uint32((2166136261^uint64(x))*16777619%(1<<32)))
		wantHash(t, "fox"+s, modelHash("fox"+s))
	}
	// The order of the bytes, and each 0 of them, count.
	for _, s := range []string{"ab", "ba", "\x00a", "a\x00", "a\x00\x00", "\x00\x00", "\u00e9", "\xff\xff\xff\xff"} {
		wantHash(t, s, modelHash(s))
	}
}

// P7.1: texts, cells and numbers of bytes of any kind, held against the chapter's words.
func TestAgainstModel(t *testing.T) {
	d := dice(7)
	for range 20000 {
		s := anyText(&d, d.roll(40))
		wantCells(t, s, modelCells(s)...)
		wantHash(t, s, modelHash(s))
		field := uint8(d.roll(256))
		wantKey(t, field, s, append([]byte{field}, s...)...)
		l := modelCells(anyText(&d, d.roll(40)))
		n := d.roll(50) - 4
		want, err := modelBytes(l, n)
		wantBytes(t, l, n, want, err)
	}
}

// P7.1: what is handed in is left as it is, its spare room too, and an answer is new memory.
func TestNewMemory(t *testing.T) {
	all := []uint32{0x64636261, 0x68676665, 0x6C6B6A69}
	was := slices.Clone(all)
	s, _ := pack.Bytes(all[:2], 7)
	if !slices.Equal(all, was) {
		t.Errorf("the cells have become %#x", all)
	}
	clear(all)
	if s != "abcdefg" {
		t.Errorf("an answer has changed with the cells: %q", s)
	}
	first, second := pack.Cells("abcde"), pack.Cells("abcde")
	clear(first[:cap(first)])
	if !slices.Equal(second, []uint32{0x64636261, 0x65}) {
		t.Errorf("one answer has changed with another: %#x", second)
	}
}

// P7.2: the parts of a word make it, and a word of parts has them.
func TestWordsThereAndBack(t *testing.T) {
	d := dice(72)
	for i := range 200000 {
		doc, pos := d.roll(65536), d.roll(65536)
		if i < 65536 {
			doc = i
		} else if i < 131072 {
			pos = i - 65536
		}
		w, err := pack.Word(doc, pos)
		if err != api.OK {
			t.Fatalf("Word(%d, %d): %v", doc, pos, err)
		}
		wantPart(t, w, doc, pos)
		w = uint32(d.roll(65536))<<16 | uint32(d.roll(65536))
		doc, pos = pack.Part(w)
		wantWord(t, doc, pos, w, api.OK)
	}
}

// P7.2: a text's bytes come back out of its cells, of any length and value; so do cells out of all their bytes.
func TestCellsThereAndBack(t *testing.T) {
	d := dice(73)
	for i := range 20000 {
		s := anyText(&d, i%70)
		l := pack.Cells(s)
		wantBytes(t, l, len(s), s, api.OK)
		wantBytes(t, l, 4*len(l), filled(s), api.OK)
		wantCells(t, filled(s), l...)
	}
	s := anyText(&d, 1<<20+1)
	if b, err := pack.Bytes(pack.Cells(s), len(s)); b != s || err != api.OK {
		t.Errorf("a text of %d bytes came back as one of %d, %v", len(s), len(b), err)
	}
}

// P7.2: texts of one length that differ in one byte alone have unlike cells.
func TestUnlike(t *testing.T) {
	d := dice(74)
	for n := 1; n <= 9; n++ {
		for at := range n {
			one := []byte(anyText(&d, n))
			other := slices.Clone(one)
			for x := range 256 {
				other[at] = byte(x)
				same := slices.Equal(pack.Cells(string(one)), pack.Cells(string(other)))
				if same != (one[at] == other[at]) {
					t.Errorf("%q and %q: alike is %v", one, other, same)
				}
			}
		}
	}
}

// P7.2: all texts of two bytes have unlike cells, each another one's.
func TestUnlikeAll(t *testing.T) {
	seen := map[uint32]bool{}
	for i := range 65536 {
		l := pack.Cells(string([]byte{byte(i), byte(i / 256)}))
		if len(l) != 1 || seen[l[0]] {
			t.Fatalf("Cells of %d, %d: %#x", i%256, i/256, l)
		}
		seen[l[0]] = true
	}
}
