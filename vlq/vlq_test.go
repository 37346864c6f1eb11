package vlq_test

import (
	"bytes"
	"math"
	"slices"
	"testing"

	"plover/api"
	"plover/vlq"
)

// dice are numbers that only look random: the same ones in each run.
type dice uint64

func (d *dice) roll(n int) int {
	*d = *d*6364136223846793005 + 1442695040888963407
	return int(uint64(*d) >> 33 % uint64(n))
}

// anyNumber is a number of some count of bits, each count as likely as another, so that short ones come up too.
func anyNumber(d *dice) uint32 {
	n := uint32(d.roll(65536))<<16 | uint32(d.roll(65536))
	return n >> d.roll(32)
}

// anyBytes is n bytes, at most 255, half of them such as the chapter's limits speak of.
func anyBytes(d *dice, n int) []byte {
	edges := []byte{0, 1, 15, 16, 127, 128, 129, 255}
	b := make([]byte, n)
	for i := range b {
		b[i] = byte(d.roll(256))
		if d.roll(2) == 0 {
			b[i] = edges[d.roll(len(edges))]
		}
	}
	return b
}

// modelPut counts first how many sevens of bits the number needs.
func modelPut(n uint32) []byte {
	size := 1
	for size < 5 && uint64(n) >= 1<<(7*size) {
		size++
	}
	b := make([]byte, size)
	for i := range b {
		b[i] = byte(uint64(n) >> (7 * i) & 127)
		if i < size-1 {
			b[i] |= 128
		}
	}
	return b
}

// modelGet looks for the last byte first, then adds up in 64 bits and asks whether just these bytes are the sum's.
func modelGet(b []byte, at int) (uint32, int, api.Errno) {
	if at < 0 || at > len(b) {
		return 0, 0, api.ErrArg
	}
	tail := b[at:min(len(b), at+5)]
	last := slices.IndexFunc(tail, func(x byte) bool { return x < 128 })
	if last < 0 && len(tail) < 5 {
		return 0, 0, api.ErrShort
	}
	if last < 0 {
		return 0, 0, api.ErrForm
	}
	sum := uint64(0)
	for i, x := range tail[:last+1] {
		sum += uint64(x%128) << (7 * i)
	}
	if sum > math.MaxUint32 || !bytes.Equal(modelPut(uint32(sum)), tail[:last+1]) {
		return 0, 0, api.ErrForm
	}
	return uint32(sum), at + last + 1, api.OK
}

// modelAll cuts each number's bytes off the front.
func modelAll(b []byte) ([]uint32, api.Errno) {
	var l []uint32
	for len(b) > 0 {
		n, next, err := modelGet(b, 0)
		if err != api.OK {
			return nil, err
		}
		l, b = append(l, n), b[next:]
	}
	return l, api.OK
}

// joined are numbers' bytes, one behind the other.
func joined(l ...uint32) []byte {
	var b []byte
	for _, n := range l {
		b = append(b, modelPut(n)...)
	}
	return b
}

// ends are the least and the greatest number of each length, from one byte to five, with their bytes.
var ends = []struct {
	n uint32
	b []byte
}{
	{0, []byte{0}},
	{127, []byte{127}},
	{128, []byte{128, 1}},
	{16383, []byte{255, 127}},
	{16384, []byte{128, 128, 1}},
	{2097151, []byte{255, 255, 127}},
	{2097152, []byte{128, 128, 128, 1}},
	{268435455, []byte{255, 255, 255, 127}},
	{268435456, []byte{128, 128, 128, 128, 1}},
	{4294967295, []byte{255, 255, 255, 255, 15}},
}

// broken are bytes that no number's stand at the beginning of, with their error.
var broken = []struct {
	b   []byte
	err api.Errno
}{
	{[]byte{128}, api.ErrShort},
	{[]byte{255}, api.ErrShort},
	{[]byte{128, 128}, api.ErrShort},
	{[]byte{255, 255}, api.ErrShort},
	{[]byte{128, 128, 128}, api.ErrShort},
	{[]byte{255, 255, 255}, api.ErrShort},
	{[]byte{128, 128, 128, 128}, api.ErrShort},
	{[]byte{255, 255, 255, 255}, api.ErrShort},
	{[]byte{128, 128, 128, 128, 128}, api.ErrForm},
	{[]byte{255, 255, 255, 255, 255}, api.ErrForm},
	{[]byte{255, 255, 255, 255, 143}, api.ErrForm}, // its seven bits are 15
	{[]byte{128, 0}, api.ErrForm},
	{[]byte{255, 0}, api.ErrForm},
	{[]byte{128, 128, 0}, api.ErrForm},
	{[]byte{129, 255, 0}, api.ErrForm},
	{[]byte{128, 128, 128, 0}, api.ErrForm},
	{[]byte{255, 255, 255, 0}, api.ErrForm},
	{[]byte{128, 128, 128, 128, 0}, api.ErrForm},
	{[]byte{255, 255, 255, 255, 0}, api.ErrForm},
	{[]byte{128, 128, 128, 128, 16}, api.ErrForm},
	{[]byte{255, 255, 255, 255, 16}, api.ErrForm},
	{[]byte{128, 128, 128, 128, 17}, api.ErrForm},
	{[]byte{128, 128, 128, 128, 31}, api.ErrForm},
	{[]byte{128, 128, 128, 128, 32}, api.ErrForm},
	{[]byte{128, 128, 128, 128, 64}, api.ErrForm},
	{[]byte{255, 255, 255, 255, 127}, api.ErrForm},
	{[]byte{128, 128, 128, 128, 128, 1}, api.ErrForm},
	{[]byte{255, 255, 255, 255, 255, 15}, api.ErrForm},
	{[]byte{128, 128, 128, 128, 128, 0, 0, 7}, api.ErrForm},
	{[]byte{128, 128, 128, 128, 128, 128, 128, 128, 128, 1}, api.ErrForm},
}

func wantPut(t *testing.T, n uint32, want ...byte) {
	t.Helper()
	if b := vlq.Put(n); !bytes.Equal(b, want) {
		t.Errorf("Put(%d) = %d; want %d", n, b, want)
	}
}

func wantGet(t *testing.T, b []byte, at int, want uint32, next int, err api.Errno) {
	t.Helper()
	if n, p, e := vlq.Get(b, at); n != want || p != next || e != err {
		t.Errorf("Get(%d, %d) = %d, %d, %v; want %d, %d, %v", b, at, n, p, e, want, next, err)
	}
}

func wantAll(t *testing.T, b []byte, err api.Errno, want ...uint32) {
	t.Helper()
	if l, e := vlq.All(b); !slices.Equal(l, want) || e != err {
		t.Errorf("All(%d) = %d, %v; want %d, %v", b, l, e, want, err)
	}
}

// P8.1: the chapter's examples.
func TestExample(t *testing.T) {
	wantPut(t, 300, 172, 2)
	wantGet(t, []byte{172, 2, 7}, 0, 300, 2, api.OK)
	wantGet(t, []byte{172, 2, 7}, 2, 7, 3, api.OK)
	wantGet(t, []byte{128, 0}, 0, 0, 0, api.ErrForm)
	wantGet(t, []byte{128}, 0, 0, 0, api.ErrShort)
	wantGet(t, []byte{255, 255, 255, 255, 16}, 0, 0, 0, api.ErrForm)
}

// P8.1: the bytes of the numbers at which a length begins and ends, and of others that are written down.
func TestPut(t *testing.T) {
	for _, c := range ends {
		wantPut(t, c.n, c.b...)
	}
	wantPut(t, 1, 1)
	wantPut(t, 129, 129, 1)
	wantPut(t, 255, 255, 1)
	wantPut(t, 256, 128, 2)
	wantPut(t, 65535, 255, 255, 3)
	wantPut(t, 65536, 128, 128, 4)
	wantPut(t, 1<<31-1, 255, 255, 255, 255, 7)
	wantPut(t, 1<<31, 128, 128, 128, 128, 8)
	wantPut(t, 0x87654321, 161, 134, 149, 187, 8)
	wantPut(t, math.MaxUint32-1, 254, 255, 255, 255, 15)
}

// P8.1: a number is read at the beginning, at the end, and with bytes of any value ahead of it and behind it.
func TestGet(t *testing.T) {
	for _, c := range ends {
		wantGet(t, c.b, 0, c.n, len(c.b), api.OK)
		for x := range 256 {
			behind := append(slices.Clone(c.b), byte(x))
			wantGet(t, behind, 0, c.n, len(c.b), api.OK)
			ahead := append([]byte{byte(x)}, c.b...)
			wantGet(t, ahead, 1, c.n, len(ahead), api.OK)
			wantGet(t, append([]byte{byte(x), 255}, behind...), 2, c.n, len(ahead)+1, api.OK)
		}
	}
}

// P8.1: Get at each place reads what begins there, within a number too.
func TestGetEachPlace(t *testing.T) {
	b := []byte{172, 2, 7, 0, 255, 255, 255, 255, 15, 128, 128, 1, 255}
	wantGet(t, b, 0, 300, 2, api.OK)
	wantGet(t, b, 1, 2, 2, api.OK)
	wantGet(t, b, 2, 7, 3, api.OK)
	wantGet(t, b, 3, 0, 4, api.OK)
	wantGet(t, b, 4, math.MaxUint32, 9, api.OK)
	wantGet(t, b, 5, 33554431, 9, api.OK)
	wantGet(t, b, 6, 262143, 9, api.OK)
	wantGet(t, b, 7, 2047, 9, api.OK)
	wantGet(t, b, 8, 15, 9, api.OK)
	wantGet(t, b, 9, 16384, 12, api.OK)
	wantGet(t, b, 10, 128, 12, api.OK)
	wantGet(t, b, 11, 1, 12, api.OK)
	wantGet(t, b, 12, 0, 0, api.ErrShort)
	wantGet(t, b, 13, 0, 0, api.ErrShort)
	wantGet(t, b, 14, 0, 0, api.ErrArg)
}

// P8.1: a place that is none, whatever the bytes are; the end is one, at which no byte stands.
func TestGetPlaces(t *testing.T) {
	all := []byte{1, 2, 3, 128, 128, 128, 128, 0, 1, 1}
	for k := range len(all) {
		b := all[:k] // the bytes behind are not b's
		wantGet(t, b, k, 0, 0, api.ErrShort)
		for _, at := range []int{-1, -2, -k - 1, math.MinInt32, math.MinInt, math.MinInt + 1} {
			wantGet(t, b, at, 0, 0, api.ErrArg)
		}
		for _, at := range []int{k + 1, k + 2, k + 5, 1000, math.MaxInt32, math.MaxInt - 5, math.MaxInt - 4, math.MaxInt - 1, math.MaxInt} {
			wantGet(t, b, at, 0, 0, api.ErrArg)
		}
	}
	wantGet(t, nil, 0, 0, 0, api.ErrShort)
	wantGet(t, nil, 1, 0, 0, api.ErrArg)
	wantGet(t, nil, -1, 0, 0, api.ErrArg)
	wantGet(t, []byte{}, 0, 0, 0, api.ErrShort)
}

// P8.1: bytes that are no number's, at the beginning and behind others; neither a number nor a place is answered beside the error.
func TestGetRefuses(t *testing.T) {
	for _, c := range broken {
		wantGet(t, c.b, 0, 0, 0, c.err)
		wantGet(t, append([]byte{7}, c.b...), 1, 0, 0, c.err)
		wantGet(t, append([]byte{128, 128, 128}, c.b...), 3, 0, 0, c.err)
	}
}

// P8.1: bytes that end ahead of a last byte are short even if their list has room behind its end where one stands.
func TestGetShort(t *testing.T) {
	all := []byte{129, 130, 131, 132, 5, 6}
	for k := 1; k < 5; k++ {
		for at := range k {
			wantGet(t, all[:k], at, 0, 0, api.ErrShort)
		}
	}
	wantGet(t, all[:5], 0, 1+2<<7+3<<14+4<<21+5<<28, 5, api.OK)
}

// P8.1: a last byte 0 is a number's if it is the only one.
func TestGetNought(t *testing.T) {
	wantGet(t, []byte{0}, 0, 0, 1, api.OK)
	wantGet(t, []byte{0, 0}, 0, 0, 1, api.OK)
	wantGet(t, []byte{0, 0}, 1, 0, 2, api.OK)
	for x := 128; x < 256; x++ {
		b := []byte{byte(x), byte(x), byte(x), byte(x), 0, 1}
		for at := range 4 {
			wantGet(t, b, at, 0, 0, api.ErrForm)
		}
		wantGet(t, b, 4, 0, 5, api.OK)
	}
}

// P8.1: each value of a fifth byte; what stands behind it plays no part.
func TestGetFifth(t *testing.T) {
	for x := range 256 {
		for _, behind := range [][]byte{nil, {0}, {1}, {128}, {255, 255}} {
			b := append([]byte{128, 129, 130, 255, byte(x)}, behind...)
			if x >= 1 && x <= 15 {
				wantGet(t, b, 0, 266371200+uint32(x)<<28, 5, api.OK)
			} else {
				wantGet(t, b, 0, 0, 0, api.ErrForm)
			}
		}
	}
}

// P8.1: any bytes up to two, and all rows of six that are made of the limits' bytes, at each place.
func TestGetAgainstModel(t *testing.T) {
	check := func(b []byte) {
		for at := -1; at <= len(b)+1; at++ {
			n, next, err := modelGet(b, at)
			wantGet(t, b, at, n, next, err)
		}
		l, err := modelAll(b)
		wantAll(t, b, err, l...)
	}
	for i := range 65536 {
		check([]byte{byte(i)})
		check([]byte{byte(i), byte(i >> 8)})
	}
	edges := []byte{0, 1, 15, 16, 127, 128, 255}
	for i := range 7 * 7 * 7 * 7 * 7 * 7 {
		b := make([]byte, 6)
		for k := range b {
			b[k] = edges[i%7]
			i /= 7
		}
		check(b)
	}
}

// P8.1: any bytes and numbers, held against the chapter's words.
func TestAgainstModel(t *testing.T) {
	d := dice(8)
	for range 50000 {
		n := anyNumber(&d)
		wantPut(t, n, modelPut(n)...)
		b := anyBytes(&d, d.roll(16))
		at := d.roll(20) - 2
		want, next, err := modelGet(b, at)
		wantGet(t, b, at, want, next, err)
		l, err := modelAll(b)
		wantAll(t, b, err, l...)
	}
}

// P8.1: the numbers of no byte, of one number's, and of several ones'.
func TestAll(t *testing.T) {
	wantAll(t, nil, api.OK)
	wantAll(t, []byte{}, api.OK)
	wantAll(t, []byte{0}, api.OK, 0)
	wantAll(t, []byte{0, 0, 0}, api.OK, 0, 0, 0)
	wantAll(t, []byte{172, 2, 7}, api.OK, 300, 7)
	wantAll(t, []byte{7, 172, 2}, api.OK, 7, 300)
	wantAll(t, []byte{255, 255, 255, 255, 15, 0, 128, 1}, api.OK, math.MaxUint32, 0, 128)
	var b []byte
	var l []uint32
	for _, c := range ends {
		wantAll(t, c.b, api.OK, c.n)
		b, l = append(b, c.b...), append(l, c.n)
		wantAll(t, b, api.OK, l...)
	}
}

// P8.1: the first Get that has an error tells it; the numbers ahead of it are not answered beside it.
func TestAllRefuses(t *testing.T) {
	for _, c := range broken {
		wantAll(t, c.b, c.err)
		wantAll(t, append([]byte{7}, c.b...), c.err)
		wantAll(t, append([]byte{172, 2, 0, 255, 255, 255, 255, 15}, c.b...), c.err)
		if c.err == api.ErrForm { // what is short is so at the end alone
			wantAll(t, append(slices.Clone(c.b), 7), api.ErrForm)
			wantAll(t, append(append([]byte{172, 2}, c.b...), 172, 2, 7), api.ErrForm)
			wantAll(t, append(append([]byte{7}, c.b...), 128), api.ErrForm)
		}
	}
	all := []byte{1, 2, 172, 2}
	wantAll(t, all[:3], api.ErrShort)
	wantAll(t, []byte{128, 7, 128}, api.ErrShort)
	wantAll(t, []byte{7, 128, 128, 128, 128}, api.ErrShort)
	wantAll(t, []byte{7, 128, 128, 128, 128, 128}, api.ErrForm)
}

// P8.1: what is handed in is left as it is, its spare room too, and an answer is new memory.
func TestNewMemory(t *testing.T) {
	all := []byte{172, 2, 7, 128, 128, 1}
	was := slices.Clone(all)
	b := all[:3]
	l, _ := vlq.All(b)
	again, _ := vlq.All(b)
	vlq.Get(b, 2)
	vlq.All(all[:4])
	if !bytes.Equal(all, was) {
		t.Errorf("the bytes have become %d", all)
	}
	clear(all)
	clear(again[:cap(again)])
	if !slices.Equal(l, []uint32{300, 7}) {
		t.Errorf("an answer has changed: %d", l)
	}
	for _, c := range ends {
		first, second := vlq.Put(c.n), vlq.Put(c.n)
		clear(first[:cap(first)])
		if !bytes.Equal(second, c.b) {
			t.Errorf("one answer has changed with another: %d", second)
		}
	}
}

// P8.2: Get of Put is the number, which ends with its bytes, alone and among others.
func TestNumbersThereAndBack(t *testing.T) {
	check := func(n uint32) {
		b := vlq.Put(n)
		wantGet(t, b, 0, n, len(b), api.OK)
		wantGet(t, append(b, 255), 0, n, len(b), api.OK)
		wantAll(t, b, api.OK, n)
	}
	for bit := range 32 {
		for k := range uint32(2001) {
			check(1<<bit + k - 1000) // wraps round at both ends, to numbers of the other end
		}
	}
	d := dice(82)
	for range 200000 {
		check(anyNumber(&d))
	}
}

// P8.2: what Get reads is just what Put puts, wherever it stands.
func TestBytesThereAndBack(t *testing.T) {
	d := dice(83)
	read := 0
	for range 300000 {
		b := anyBytes(&d, d.roll(12))
		at := d.roll(len(b) + 1)
		n, next, err := vlq.Get(b, at)
		if err != api.OK {
			continue
		}
		read++
		wantPut(t, n, b[at:next]...)
	}
	if read < 100000 {
		t.Errorf("only %d were read", read)
	}
}

// P8.2: no number has other bytes than its own: of all of up to three bytes, those that are read are just the numbers' below 2^21.
func TestOneForm(t *testing.T) {
	read := 0
	b := make([]byte, 3)
	for i := range 1 << 24 {
		b[0], b[1], b[2] = byte(i), byte(i>>8), byte(i>>16)
		n, next, err := vlq.Get(b, 0)
		if err != api.OK || next != 3 {
			continue
		}
		read++
		if n < 16384 || n >= 2097152 || !bytes.Equal(modelPut(n), b) {
			t.Fatalf("Get(%d, 0) = %d", b, n)
		}
	}
	if read != 2097152-16384 {
		t.Errorf("%d numbers of three bytes", read)
	}
}

// P8.2: All of numbers' bytes, one behind the other, is these numbers; so are the bytes of what All reads the bytes.
func TestAllThereAndBack(t *testing.T) {
	d := dice(84)
	for i := range 20000 {
		l := make([]uint32, i%40)
		var b []byte
		for k := range l {
			l[k] = anyNumber(&d)
			b = append(b, vlq.Put(l[k])...)
		}
		wantAll(t, b, api.OK, l...)
		b = anyBytes(&d, d.roll(8))
		if l, err := vlq.All(b); err == api.OK && !bytes.Equal(joined(l...), b) {
			t.Errorf("All(%d) = %d", b, l)
		}
	}
	l := make([]uint32, 1<<18)
	for k := range l {
		l[k] = anyNumber(&d)
	}
	if got, err := vlq.All(joined(l...)); err != api.OK || !slices.Equal(got, l) {
		t.Errorf("%d numbers came back as %d, %v", len(l), len(got), err)
	}
}
