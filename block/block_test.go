package block_test

import (
	"math"
	"slices"
	"testing"

	"plover/api"
	"plover/block"
)

// dice are numbers that only look random: the same ones in each run.
type dice uint64

func (d *dice) roll(n int) int {
	*d = *d*6364136223846793005 + 1442695040888963407
	return int(uint64(*d) >> 33 % uint64(n))
}

// rising is n numbers from 0 to 65535 that rise by at most a step that hangs on the dice, so that short differences come up, and long ones.
func (d *dice) rising(n int) []int {
	step := 65536 / n
	if d.roll(2) == 0 {
		step = 1 + d.roll(step)
	}
	l := make([]int, n)
	at := d.roll(1+65536-n*step) - 1
	for i := range l {
		at += 1 + d.roll(step)
		l[i] = at
	}
	return l
}

// list is one of n entries that may be, most of them with few places.
func (d *dice) list(n int) []api.Entry {
	var l []api.Entry
	if n == 0 {
		return l
	}
	for _, doc := range d.rising(n) {
		count := 1 + d.roll(4)
		if d.roll(16) == 0 {
			count = 1 + d.roll(256)
		}
		l = append(l, api.Entry{Doc: doc, Pos: d.rising(count)})
	}
	return l
}

// sizes are the numbers of entries at which a block, or a list, begins or is full.
var sizes = []int{0, 1, 2, 3, 4, 5, 7, 8, 9, 12, 13, 60, 61, 63, 64}

// entry is one of a list.
func entry(doc int, pos ...int) api.Entry {
	return api.Entry{Doc: doc, Pos: pos}
}

// row is n entries, the i-th with the Doc 3 i and the places i and i + 2.
func row(n int) []api.Entry {
	var l []api.Entry
	for i := range n {
		l = append(l, entry(3*i, i, i+2))
	}
	return l
}

// count is n places from 0 on.
func count(n int) []int {
	l := make([]int, n)
	for i := range l {
		l[i] = i
	}
	return l
}

// clone is a list that shares nothing with another one.
func clone(l []api.Entry) []api.Entry {
	l = slices.Clone(l)
	for i := range l {
		l[i].Pos = slices.Clone(l[i].Pos)
	}
	return l
}

// same tells whether two lists are the same, a list without elements being nil or empty.
func same(x, y []api.Entry) bool {
	return slices.EqualFunc(x, y, func(a, b api.Entry) bool {
		return a.Doc == b.Doc && slices.Equal(a.Pos, b.Pos)
	})
}

func wantEncode(t *testing.T, l []api.Entry, want ...uint32) {
	t.Helper()
	if cells, err := block.Encode(l); !slices.Equal(cells, want) || err != api.OK {
		t.Errorf("Encode(%v) = %#x, %v; want %#x", l, cells, err, want)
	}
}

func wantArg(t *testing.T, what string, l []api.Entry) {
	t.Helper()
	if cells, err := block.Encode(l); len(cells) != 0 || err != api.ErrArg {
		t.Errorf("%s: Encode(%v) = %#x, %v; want an error", what, l, cells, err)
	}
}

func wantDecode(t *testing.T, cells []uint32, want ...api.Entry) {
	t.Helper()
	if l, err := block.Decode(cells); !same(l, want) || err != api.OK {
		t.Errorf("Decode(%#x) = %v, %v; want %v", cells, l, err, want)
	}
}

func wantForm(t *testing.T, what string, cells ...uint32) {
	t.Helper()
	if l, err := block.Decode(cells); len(l) != 0 || err != api.ErrForm {
		t.Errorf("%s: Decode(%#x) = %v, %v; want an error", what, cells, l, err)
	}
}

// wantBoth holds a list against its cells, both ways.
func wantBoth(t *testing.T, l []api.Entry, cells ...uint32) {
	t.Helper()
	wantEncode(t, l, cells...)
	wantDecode(t, cells, l...)
}

// P13.1: the chapter's examples.
func TestExample(t *testing.T) {
	wantBoth(t, nil, 0)
	wantBoth(t, []api.Entry{}, 0)
	wantBoth(t, []api.Entry{entry(3, 1, 5)}, 1, 196608, 0x04010203)
}

// P13.1: lists of a block, of less, and of more, their cells reckoned by hand.
func TestSizes(t *testing.T) {
	wantBoth(t, row(1), 1, 0, 0x02000200)
	wantBoth(t, row(2), 2, 3<<16, 0x02000200, 0x02010203)
	wantBoth(t, row(4), 4, 9<<16, 0x02000200, 0x02010203, 0x02020203, 0x02030203)
	wantBoth(t, row(5), 5, 9<<16, 12<<16+16, 0x02000200, 0x02010203, 0x02020203, 0x02030203, 0x0204020C)
	wantBoth(t, row(8), 8, 9<<16, 21<<16+16, 0x02000200, 0x02010203, 0x02020203, 0x02030203,
		0x0204020C, 0x02050203, 0x02060203, 0x02070203)
	wantBoth(t, row(9), 9, 9<<16, 21<<16+16, 24<<16+32, 0x02000200, 0x02010203, 0x02020203, 0x02030203,
		0x0204020C, 0x02050203, 0x02060203, 0x02070203, 0x02080218)
	// The 64th entry's Doc is 189. From 128 on a block's first Doc has two bytes: 132, 144, 156, 168 and 180.
	cells, err := block.Encode(row(64))
	if len(cells) != 1+16+66 || err != api.OK || cells[0] != 64 || cells[16] != 189<<16+60*4+4 || cells[17] != 0x02000200 {
		t.Errorf("Encode of 64 entries: %#x, %v", cells, err)
	}
	wantBoth(t, row(64), laid(row(64))...)
	wantArg(t, "65 entries", row(65))
	wantArg(t, "66 entries", row(66))
	wantArg(t, "128 entries", row(128))
	wantArg(t, "1000 entries", row(1000))
}

// P13.1: numbers of two and of three bytes, as Docs, as what a Doc is more than the one ahead, as places and as what they are more, and how many there are.
func TestNumbers(t *testing.T) {
	wantBoth(t, []api.Entry{entry(127, 127, 254)}, 1, 127<<16, 0x7F7F027F)
	wantBoth(t, []api.Entry{entry(128, 128, 256)}, 1, 128<<16, 0x80020180, 0x00018001)
	wantBoth(t, []api.Entry{entry(300, 1, 301)}, 1, 300<<16, 0x010202AC, 0x000002AC)
	wantBoth(t, []api.Entry{entry(65535, 65535)}, 1, 65535<<16, 0x0103FFFF, 0x0003FFFF)
	wantBoth(t, []api.Entry{entry(0, 0, 65535)}, 1, 0, 0xFF000200, 0x000003FF)
	wantBoth(t, []api.Entry{entry(0, 0), entry(300, 0), entry(16684, 7)}, 3, 16684<<16, 0xAC000100, 0x80000102, 0x07010180)
	b := append([]byte{5, 128, 2}, slices.Repeat([]byte{1}, 256)...)
	b[3] = 0
	wantBoth(t, []api.Entry{entry(5, count(256)...)}, append([]uint32{1, 5 << 16}, cellsOf(b)...)...)
	b = append([]byte{5, 255, 1}, slices.Repeat([]byte{1}, 255)...)
	wantBoth(t, []api.Entry{entry(5, count(256)[1:]...)}, append([]uint32{1, 5 << 16}, cellsOf(b)...)...)
}

// P13.1: Docs and places at their limits.
func TestLimits(t *testing.T) {
	for _, l := range [][]api.Entry{
		{entry(0, 0)},
		{entry(65535, 65535)},
		{entry(0, 0, 1, 65534, 65535), entry(65535, 0, 65535)},
		{entry(65532, 0), entry(65533, 1), entry(65534, 2), entry(65535, 3)},
		{entry(0, 0), entry(1, 0), entry(2, 0), entry(65534, 0), entry(65535, 0)},
		{entry(0, count(256)...), entry(1, 65280)},
	} {
		wantBoth(t, l, laid(l)...)
	}
	// The most bytes that a list can have: two places or differences of three bytes, all others of two.
	far := []int{16384, 32768}
	for k := range 254 {
		far = append(far, 32768+128*(k+1))
	}
	var l []api.Entry
	for i := range 64 {
		l = append(l, entry(16384+i*128, far...))
	}
	b, begins := modelBytes(l)
	if len(far) != 256 || len(b) != 64*518+16 || begins[15] != 60*518+15 {
		t.Fatalf("%d places, %d bytes, the last block from %d on", len(far), len(b), begins[15])
	}
	wantBoth(t, l, laid(l)...)
}

// fault makes of an entry that may be one that may not, behind the Doc ahead.
type fault struct {
	what string
	make func(e *api.Entry, ahead int)
}

// spoil is a fault of the places alone.
func spoil(what string, pos ...int) fault {
	return fault{what, func(e *api.Entry, _ int) { e.Pos = pos }}
}

// doc is a fault of the Doc alone.
func doc(n int) fault {
	return fault{"a Doc that may not be", func(e *api.Entry, _ int) { e.Doc = n }}
}

// faults are such as cells could tell, too.
var faults = []fault{
	doc(-1), doc(-2), doc(-65536), doc(65536), doc(65537), doc(131071),
	{"a Doc as the one ahead", func(e *api.Entry, ahead int) { e.Doc = ahead }},
	{"a Doc below the one ahead", func(e *api.Entry, ahead int) { e.Doc = ahead - 1 }},
	spoil("no places"),
	spoil("257 places", count(257)...),
	spoil("258 places", count(258)...),
	spoil("512 places", count(512)...),
	spoil("the only place", 65536),
	spoil("the only place", -1),
	spoil("the first place", -1, 0),
	spoil("the first place", -65536, 3),
	spoil("the last place", 0, 65536),
	spoil("the last place", 65534, 65535, 65536),
	spoil("the last place", 65535, 131071),
	spoil("twice the same", 0, 0),
	spoil("twice the same", 1, 1, 2),
	spoil("twice the same", 1, 2, 2),
	spoil("twice the same", 0, 1, 1, 2),
	spoil("twice the same", 65535, 65535),
	spoil("falling", 2, 1),
	spoil("falling", 65535, 0),
	spoil("falling", 0, 2, 1, 3),
	spoil("falling", 1, 2, 0),
	spoil("falling at the 256th place", append(count(256)[:255], 5)...),
	spoil("the 256th place", append(count(256)[:255], 65536)...),
}

// wide are faults by numbers of more than 32 bits.
var wide = []fault{
	doc(1 << 32), doc(1<<32 + 7), doc(math.MinInt), doc(math.MinInt + 1), doc(math.MaxInt), doc(-1 << 32), doc(1 - 1<<32),
	spoil("a wide place", 1<<32),
	spoil("a wide place", 3, 1<<32+4),
	spoil("a wide place", math.MinInt, 3),
	spoil("a wide place", math.MinInt, math.MaxInt),
	spoil("a wide place", 5, math.MaxInt),
	spoil("a wide place", -1<<32, 0),
}

// spoiled is a list of n entries whose i-th one has a fault.
func spoiled(f fault, n, i int) []api.Entry {
	l := row(n)
	for k := range l {
		l[k].Doc += 2 // so that a Doc below the one ahead is no fault by being below 0
	}
	ahead := 0
	if i > 0 {
		ahead = l[i-1].Doc
	}
	f.make(&l[i], ahead)
	return l
}

// P13.1: one fault, in the first entry, in the last one and in each between, is refused, and nothing is answered beside the error; so are the cells that a list with that fault would have.
func TestFaults(t *testing.T) {
	for _, n := range []int{1, 2, 4, 5, 8, 9, 64} {
		for i := range n {
			for _, f := range faults {
				l := spoiled(f, n, i)
				if modelMay(l) {
					if i > 0 {
						t.Errorf("%s: no fault", f.what)
					}
					continue // the first Doc has none ahead
				}
				wantArg(t, f.what, l)
				wantForm(t, f.what, laid(l)...)
			}
			for _, f := range wide {
				wantArg(t, f.what, spoiled(f, n, i))
			}
		}
	}
	wantForm(t, "65 entries", laid(row(65))...)
	wantForm(t, "68 entries", laid(row(68))...)
	wantForm(t, "300 entries", laid(row(300))...)
}

// P13.1: lists of any kind, and with any fault, held against the chapter's words.
func TestEncodeAgainstModel(t *testing.T) {
	d := dice(13)
	for i := range 4000 {
		l := d.list(i % 65)
		if len(l) > 0 && d.roll(2) == 0 {
			all := append(faults, wide...)
			k := d.roll(len(l))
			all[d.roll(len(all))].make(&l[k], d.roll(65536))
		}
		want, err := modelEncode(l)
		if err != api.OK {
			wantArg(t, "a list of any kind", l)
			continue
		}
		wantEncode(t, l, want...)
	}
}

// P13.1: the list that is handed in stays as it is, its spare room too, and the cells are new memory.
func TestEncodeLeaves(t *testing.T) {
	places := []int{1, 5, 9, 9, 7}
	all := []api.Entry{entry(3, places[:3]...), entry(4, places[2:3]...), entry(4, 0, 0), entry(9)}
	was := clone(all)
	for n := range len(all) + 1 {
		block.Encode(all[:n])
	}
	if !same(all, was) || !slices.Equal(places, []int{1, 5, 9, 9, 7}) {
		t.Errorf("the list has become %v, its places %v", all, places)
	}
	first, _ := block.Encode(all[:2])
	second, _ := block.Encode(all[:2])
	want := slices.Clone(first)
	clear(first[:cap(first)])
	clear(places)
	clear(all)
	if !slices.Equal(second, want) {
		t.Errorf("an answer has changed: %#x; want %#x", second, want)
	}
}

// P13.1: no cells at all, and numbers of entries that are none or too many, whatever stands behind.
func TestDecodeCount(t *testing.T) {
	wantForm(t, "no cells")
	wantForm(t, "cells behind no entry", 0, 0)
	wantForm(t, "cells behind no entry", 0, 1, 2)
	for _, n := range []uint32{1, 4, 5, 64, 65, 66, 68, 128, 256, 65536, 1 << 30, 1<<31 - 1, 1 << 31, 1<<32 - 4, 1<<32 - 1} {
		wantForm(t, "a number of entries alone", n)
		wantForm(t, "a number of entries, and too few cells", n, 0)
		wantForm(t, "a number of entries, and other cells", append([]uint32{n}, laid(row(63))[1:]...)...)
		wantForm(t, "a number of entries, and cells of 0", append([]uint32{n}, make([]uint32, 100)...)...)
	}
	for n := range 66 {
		cells := laid(row(9))
		cells[0] = uint32(n)
		if n != 9 {
			wantForm(t, "another number of entries", cells...)
		}
	}
}

// P13.1: cells that end too soon, in the heads and in the bytes, and cells too many.
func TestDecodeEnds(t *testing.T) {
	d := dice(131)
	for _, n := range sizes {
		for _, l := range [][]api.Entry{row(n), d.list(n)} {
			cells := laid(l)
			for k := range cells {
				wantForm(t, "too few cells", cells[:k]...)
			}
			for _, x := range []uint32{0, 1, 128, 1 << 31, math.MaxUint32, cells[len(cells)-1]} {
				wantForm(t, "a cell too many", append(slices.Clone(cells), x)...)
				wantForm(t, "cells too many", append(slices.Clone(cells), 0, x)...)
			}
			wantForm(t, "many cells too many", append(slices.Clone(cells), make([]uint32, 70000)...)...)
		}
	}
}

// P13.1: what fills the last cell up is 0.
func TestDecodeFilled(t *testing.T) {
	for free := range 4 {
		l := []api.Entry{entry(7, count(5-free)...)} // 7 bytes, and none to three less
		b, _ := modelBytes(l)
		for at := 7 - free; at < 8 && free < 3; at++ {
			for x := 1; x < 256; x++ {
				other := make([]byte, 8)
				copy(other, b)
				other[at] = byte(x)
				wantForm(t, "bytes behind the last entry", append([]uint32{1, 7 << 16}, cellsOf(other)...)...)
			}
		}
		wantDecode(t, laid(l), l...)
	}
}

// one is the cells of one entry with these bytes, its head telling a Doc.
func one(doc uint32, b ...byte) []uint32 {
	return append([]uint32{1, doc << 16}, cellsOf(b)...)
}

// P13.1: a number's bytes that aren't its shortest, that break off, or are none's.
func TestDecodeBytes(t *testing.T) {
	wantDecode(t, one(3, 3, 2, 1, 4), entry(3, 1, 5))
	wantForm(t, "the Doc in two bytes", one(3, 131, 0, 2, 1, 4)...)
	wantForm(t, "the number of places in two bytes", one(3, 3, 130, 0, 1, 4)...)
	wantForm(t, "the first place in two bytes", one(3, 3, 2, 129, 0, 4)...)
	wantForm(t, "a difference in two bytes", one(3, 3, 2, 1, 132, 0)...)
	wantForm(t, "a difference in three bytes", one(3, 3, 2, 1, 132, 128, 0)...)
	wantForm(t, "a first place 0 in two bytes", one(3, 3, 1, 128, 0)...)
	wantForm(t, "a first place 0 in four bytes", one(3, 3, 1, 128, 128, 128, 0)...)
	wantForm(t, "five bytes", one(3, 3, 1, 129, 128, 128, 128, 0)...)
	wantForm(t, "more than five bytes", one(3, 3, 1, 129, 128, 128, 128, 128, 0)...)
	wantForm(t, "more than 32 bits", one(3, 3, 1, 129, 128, 128, 128, 16)...)
	wantForm(t, "the greatest number", one(3, 3, 1, 255, 255, 255, 255, 15)...)
	wantForm(t, "the greatest number of places", one(3, 3, 255, 255, 255, 255, 15, 1)...)
	wantForm(t, "the greatest Doc", one(65535, 255, 255, 255, 255, 15, 1, 1)...)
	wantForm(t, "it breaks off in the last place", one(3, 3, 2, 1, 132)...)
	wantForm(t, "it breaks off in the last place", one(3, 3, 2, 1, 255)...)
	wantForm(t, "it breaks off in the first place", one(3, 3, 130, 1, 128)...)
	wantForm(t, "it breaks off in the number of places", one(128, 128, 1, 129, 129)...)
	wantForm(t, "it breaks off in the Doc", one(3, 131, 131, 131, 131)...)
	wantForm(t, "no bytes", one(0)...)
	wantForm(t, "no first place", one(16384, 128, 128, 1, 1)...)
	wantForm(t, "no further place", one(128, 128, 1, 2, 0)...)
	wantDecode(t, one(128, 128, 1, 1, 0), entry(128, 0)) // the 0 is the place
	wantDecode(t, one(3, 3, 1), entry(3, 0))             // and here it is what fills the cell up, too
}

// P13.1: any number of a list in one byte more than it needs, all else being as it should be.
func TestDecodeShortest(t *testing.T) {
	for _, n := range []int{1, 4, 5, 9, 64} {
		b, begins := modelBytes(row(n))
		for at, x := range b {
			if x >= 128 {
				continue
			}
			other := slices.Insert(slices.Clone(b), at+1, byte(0))
			other[at] += 128
			cells := []uint32{uint32(n)}
			for k, from := range begins {
				if from > at {
					from++
				}
				cells = append(cells, uint32(3*min(4*k+3, n-1)<<16+from))
			}
			wantForm(t, "a byte more than is needed", append(cells, cellsOf(other)...)...)
		}
	}
}

// P13.1: a head that tells a block's last Doc, or its place, otherwise than the bytes do.
func TestDecodeHeads(t *testing.T) {
	for _, n := range sizes {
		cells := laid(row(n))
		for k := 1; k <= (n+3)/4; k++ {
			for _, more := range []uint32{1, 2, 3, 4, 16, 32768, 65535, 65536, 2 << 16, 3 << 16, 9 << 16, 1 << 31, 65537} {
				other := slices.Clone(cells)
				other[k] += more
				wantForm(t, "a head that tells more", other...)
				other[k] = cells[k] - more
				wantForm(t, "a head that tells less", other...)
			}
			if k > 1 {
				other := slices.Clone(cells)
				other[k], other[k-1] = other[k-1], other[k]
				wantForm(t, "heads in another order", other...)
				other = slices.Delete(slices.Clone(cells), k, k+1)
				wantForm(t, "a head less", other...)
				wantForm(t, "a head twice", slices.Insert(slices.Clone(cells), k, cells[k])...)
			}
		}
	}
}

// P13.1: Docs that don't rise from one block to the next, though each block is one by itself.
func TestDecodeBlocks(t *testing.T) {
	for _, n := range []int{5, 8, 9, 64} {
		for k := 4; k < n; k += 4 {
			for _, more := range []int{0, -1, -5, -9} {
				l := row(n)
				shift := l[k-1].Doc + more - l[k].Doc
				for i := k; i < n; i++ {
					l[i].Doc += shift
				}
				wantArg(t, "a block whose first Doc doesn't rise", l)
				wantForm(t, "a block whose first Doc doesn't rise", laid(l)...)
			}
		}
	}
	// As of one block the Docs 65535 and 65536, the head's upper half being what 65536 leaves there.
	wantForm(t, "a Doc 65536", append([]uint32{2, 0}, cellsOf([]byte{255, 255, 3, 1, 0, 1, 1, 0})...)...)
	wantForm(t, "a first Doc 65536", one(0, 128, 128, 4, 1, 0)...)
	wantDecode(t, one(65535, 255, 255, 3, 1, 0), entry(65535, 0))
}

// wantModel holds what Decode answers of cells against the chapter's words, and what it reads against what is encoded of it; it tells whether it read a list.
func wantModel(t *testing.T, cells []uint32) bool {
	t.Helper()
	want, err := modelDecode(cells)
	if err != api.OK {
		wantForm(t, "as the model", cells...)
		return false
	}
	wantBoth(t, want, cells...)
	return true
}

// P13.1, P13.2: each single cell of what Encode answers, changed by itself, against the chapter's words: of plain lists each bit, of any other ones some.
func TestEveryCell(t *testing.T) {
	d := dice(132)
	read, all := 0, 0
	check := func(cells []uint32) {
		all++
		if wantModel(t, cells) {
			read++
		}
	}
	for _, n := range sizes {
		for i, l := range [][]api.Entry{row(n), d.list(n), d.list(n)} {
			cells, _ := block.Encode(l)
			check(cells)
			for k, was := range cells {
				for bit := range 32 {
					cells[k] = was ^ 1<<bit
					if i == 0 || d.roll(8) == 0 {
						check(cells)
					}
				}
				for _, x := range []uint32{0, math.MaxUint32, was + 1, was - 1, was << 8, was >> 8, uint32(d.roll(1 << 31))} {
					cells[k] = x
					check(cells)
				}
				cells[k] = was
			}
		}
	}
	if read < all/10 || read > all*9/10 {
		t.Errorf("%d of %d were read", read, all)
	}
}

// P13.1, P13.2: bytes of lists, turned, put in and taken out, and cells of any kind, against the chapter's words.
func TestAnyCells(t *testing.T) {
	d := dice(133)
	edges := []byte{0, 1, 2, 3, 4, 127, 128, 129, 255}
	read := 0
	for i := range 60000 {
		l := d.list(1 + d.roll(1+i%9))
		b, begins := modelBytes(l)
		if len(b) > 100 {
			continue
		}
		heads := laid(l)[:1+len(begins)]
		at := d.roll(len(b))
		x := edges[d.roll(len(edges))]
		switch d.roll(4) {
		case 0:
			b[at] = x
		case 1:
			b = slices.Insert(b, at, x)
		case 2:
			b = slices.Delete(b, at, at+1)
		}
		if wantModel(t, append(heads, cellsOf(b)...)) {
			read++
		}
		few := []uint32{uint32(d.roll(10)), uint32(d.roll(8)) << 16, uint32(d.roll(1 << 31)), uint32(d.roll(1 << 31))}
		wantModel(t, few[:d.roll(5)])
	}
	if read < 10000 {
		t.Errorf("only %d were read", read)
	}
}

// P13.1: cells of one entry with two bytes of any value behind its Doc.
func TestAnyBytes(t *testing.T) {
	for i := range 65536 {
		wantModel(t, one(1, 1, byte(i), byte(i>>8)))
		wantModel(t, one(1, 1, 2, byte(i), byte(i>>8)))
		wantModel(t, one(uint32(i%128), byte(i), byte(i>>8)))
	}
}

// P13.1: the cells that are handed in stay, their spare room too, and the list is new memory, no two of its places sharing any.
func TestDecodeLeaves(t *testing.T) {
	d := dice(134)
	l := d.list(9)
	all := append(laid(l), 5, 6, 7)
	cells := all[:len(all)-3]
	was := slices.Clone(all)
	first, _ := block.Decode(cells)
	second, _ := block.Decode(cells)
	block.Decode(all)
	block.Decode(cells[:len(cells)-1])
	if !slices.Equal(all, was) {
		t.Errorf("the cells have become %#x", all)
	}
	clear(all)
	for i := range first {
		room := first[i].Pos[:cap(first[i].Pos)]
		for k := range room {
			room[k] = -1
		}
		first[i].Pos = nil
		for k := i + 1; k < len(first); k++ {
			if !slices.Equal(first[k].Pos, l[k].Pos) {
				t.Errorf("the places of %d have changed with those of %d", k, i)
			}
		}
	}
	clear(first[:cap(first)])
	if !same(second, l) {
		t.Errorf("an answer has changed: %v; want %v", second, l)
	}
}

// P13.2: what is decoded of what was encoded is the list, of lists of each length, with places of each number.
func TestThereAndBack(t *testing.T) {
	d := dice(135)
	check := func(l []api.Entry) {
		cells, err := block.Encode(l)
		if err != api.OK {
			t.Fatalf("Encode(%v): %v", l, err)
		}
		wantDecode(t, cells, l...)
	}
	for i := range 65 * 40 {
		check(d.list(i % 65))
	}
	for n := 1; n <= 256; n++ {
		check([]api.Entry{entry(d.roll(65536), d.rising(n)...)})
		check([]api.Entry{entry(0, count(n)...), entry(65535, d.rising(257-n)...)})
	}
	for n := range 65536 {
		check([]api.Entry{entry(n, 65535-n)})
	}
}

// P13.2: unlike lists have unlike cells: all of one entry, and of two, with few Docs and places.
func TestUnlike(t *testing.T) {
	var places [][]int
	for set := 1; set < 16; set++ {
		var pos []int
		for p := range 4 {
			if set>>p&1 == 1 {
				pos = append(pos, p)
			}
		}
		places = append(places, pos)
	}
	seen := map[string]bool{}
	all := 0
	add := func(l ...api.Entry) {
		cells, _ := block.Encode(l)
		key := ""
		for _, x := range cells {
			key += string([]byte{byte(x), byte(x >> 8), byte(x >> 16), byte(x >> 24)})
		}
		seen[key] = true
		all++
	}
	for _, p := range places {
		for a := range 4 {
			add(entry(a, p...))
			for b := a + 1; b < 4; b++ {
				for _, q := range places {
					add(entry(a, p...), entry(b, q...))
				}
			}
		}
	}
	if len(seen) != all || all != 15*4+225*6 {
		t.Errorf("%d lists have %d cells", all, len(seen))
	}
}

// P13.1: each block's bytes begin at the place that its cell tells, with the whole Doc: it can be read by itself, as a list.
func TestBlockAlone(t *testing.T) {
	d := dice(136)
	for _, n := range sizes {
		for range 20 {
			l := d.list(n)
			cells, _ := block.Encode(l)
			heads := cells[1 : 1+(n+3)/4]
			b := bytesOf(cells[1+len(heads):])
			long, _ := modelBytes(l)
			for k, head := range heads {
				from, to := int(head%65536), len(long)
				if k+1 < len(heads) {
					to = int(heads[k+1] % 65536)
				}
				part := l[4*k : min(4*k+4, n)]
				alone := []uint32{uint32(len(part)), head / 65536 * 65536}
				wantDecode(t, append(alone, cellsOf(b[from:to])...), part...)
			}
		}
	}
}

// bytesOf is all bytes of cells.
func bytesOf(cells []uint32) (b []byte) {
	for _, x := range cells {
		b = append(b, byte(x), byte(x>>8), byte(x>>16), byte(x>>24))
	}
	return b
}

// P13.1: a further entry behind the last one leaves the heads and the bytes of all whole blocks ahead of it as they are.
func TestFurther(t *testing.T) {
	d := dice(137)
	for range 60 {
		l := d.list(64)
		var heads []uint32
		var whole []byte
		for n := range 65 {
			cells, _ := block.Encode(l[:n])
			blocks := (n + 3) / 4
			b := bytesOf(cells[1+blocks:])
			if !slices.Equal(cells[1:1+len(heads)], heads) || len(b) < len(whole) || !slices.Equal(b[:len(whole)], whole) {
				t.Fatalf("with %d entries the blocks ahead are %#x, %d; they were %#x, %d", n, cells[1:1+blocks], b, heads, whole)
			}
			if n%4 == 0 {
				long, _ := modelBytes(l[:n])
				heads, whole = cells[1:1+blocks], b[:len(long)]
			}
		}
	}
}
