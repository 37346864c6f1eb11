package score_test

import (
	"math"
	"testing"

	"plover/score"
)

// nans are NaNs of unlike bits: of both signs, quiet ones and others, with the least and the most behind it.
var nans = []float64{
	nan, -nan,
	math.Float64frombits(0x7FF0000000000001), math.Float64frombits(0xFFF0000000000001),
	math.Float64frombits(0x7FF8000000000000), math.Float64frombits(0xFFF8000000000000),
	math.Float64frombits(0x7FF8000000000001), math.Float64frombits(0xFFF8000000000001),
	math.Float64frombits(0x7FF8000000000002), math.Float64frombits(0x7FF4000000000000),
	math.Float64frombits(0x7FFFFFFFFFFFFFFF), math.Float64frombits(0xFFFFFFFFFFFFFFFF),
	math.Float64frombits(0x7FF7FFFFFFFFFFFF), math.Float64frombits(0x7FF0000080000000),
}

// numbers are those that differ in kind, the ends of each kind, and some next to one another.
func numbers() []float64 {
	l := []float64{0, zero, inf, deep}
	for _, x := range []float64{least, small, 0x1p-149, 0.1, 0.5, 1, 2, 3, math.Pi, 0x1p32, 0x1p53, 0x1p63, 0x1p64, math.MaxFloat32, 0x1p1023, most} {
		for _, y := range []float64{math.Nextafter(x, 0), x, math.Nextafter(x, inf)} {
			l = append(l, y, -y)
		}
	}
	return append(l, nans...)
}

// P19.1: Order of numbers of unlike kinds, from the first one to the last.
func TestOrder(t *testing.T) {
	l := []float64{nan, deep, -most, -2, -1, -small, -least, 0, least, small, 0.5, 1, math.Nextafter(1, 2), 2, most, inf}
	for i, x := range l {
		for j, y := range l {
			wantOrder(t, x, y, sign(i < j, i > j))
		}
	}
}

// P19.1: Order of any two out of the list, and Same of them, against the model by kinds.
func TestPairs(t *testing.T) {
	for _, x := range numbers() {
		for _, y := range numbers() {
			wantOrder(t, x, y, modelOrder(x, y))
			wantSame(t, x, y, modelBits(x) == modelBits(y))
		}
	}
}

// P19.1: Bits of each of the list; those of any NaN are the chapter's, so that all NaNs are the same.
func TestBits(t *testing.T) {
	for _, x := range numbers() {
		wantBits(t, x, modelBits(x))
	}
	for _, x := range nans {
		wantBits(t, x, 0x7FF8000000000001)
		for _, y := range nans {
			wantSame(t, x, y, true)
		}
	}
	wantBits(t, 0, 0)
	wantBits(t, zero, 0x8000000000000000)
	wantBits(t, least, 1)
	wantBits(t, 1, 0x3FF0000000000000)
	wantBits(t, -2, 0xC000000000000000)
	wantBits(t, most, 0x7FEFFFFFFFFFFFFF)
	wantBits(t, inf, 0x7FF0000000000000)
	wantBits(t, deep, 0xFFF0000000000000)
}

// near are any bits, or some that lie close to one of the list's.
func (d *dice) near() float64 {
	switch d.roll(4) {
	case 0:
		return math.Float64frombits(d.bits())
	case 1:
		return math.Float64frombits(d.bits()&^(0x7FF<<52) | pick[uint64](d, 0, 1, 0x3FF, 0x7FE, 0x7FF)<<52)
	}
	b := math.Float64bits(pick(d, pick(d, numbers()...), pick(d, 0, zero, inf, deep)))
	return math.Float64frombits(b + uint64(max(0, d.roll(6)-3)) - uint64(max(0, d.roll(6)-3)))
}

// other is x with one bit turned, or another number.
func (d *dice) other(x float64) float64 {
	if d.roll(2) == 0 {
		return d.near()
	}
	return math.Float64frombits(math.Float64bits(x) ^ 1<<d.roll(64))
}

// P19.1: drawn numbers: Order and Same of two of them, often with but one bit between them, and Bits of each, against the model.
func TestDrawnPairs(t *testing.T) {
	d := dice(1)
	met := map[int]int{}
	for range 100000 {
		x := d.near()
		y := d.other(x)
		wantBits(t, x, modelBits(x))
		wantSame(t, x, x, true)
		wantSame(t, x, y, modelBits(x) == modelBits(y))
		wantOrder(t, x, x, 0)
		wantOrder(t, x, y, modelOrder(x, y))
		met[kind(x)*10+kind(y)]++
	}
	for _, a := range []int{notANumber, minusInfinity, negative, naught, positive, infinity} {
		for _, b := range []int{notANumber, minusInfinity, negative, naught, positive, infinity} {
			if met[a*10+b] < 20 {
				t.Errorf("numbers of the kinds %d and %d met %d times", a, b, met[a*10+b])
			}
		}
	}
}

// P19.1: a number stands ahead of the next one, from one end to the other, and at no place with it.
func TestNeighbours(t *testing.T) {
	d := dice(2)
	for range 100000 {
		x := d.near()
		if y := math.Nextafter(x, inf); x < y {
			wantOrder(t, x, y, -1)
			wantOrder(t, y, x, 1)
		}
		wantOrder(t, x, deep, sign(x != x, x > deep))
		wantOrder(t, inf, x, sign(false, !(x == inf)))
	}
}

// P19.2: Order is the same the other way round but for its sign.
func TestOtherWayRound(t *testing.T) {
	for _, x := range numbers() {
		for _, y := range numbers() {
			if a, b := score.Order(x, y), score.Order(y, x); a != -b || a < -1 || a > 1 {
				t.Fatalf("Order of %v, %v is %d, the other way round %d", x, y, a, b)
			}
		}
	}
}

// wantLaw holds what is said of three numbers.
func wantLaw(t *testing.T, x, y, z float64) {
	t.Helper()
	a, b, c := score.Order(x, y), score.Order(y, z), score.Order(x, z)
	if a == b && c != a || a == 0 && c != b || b == 0 && c != a {
		t.Fatalf("Order of %v, %v is %d, of %v, %v %d, but of %v, %v %d", x, y, a, y, z, b, x, z, c)
	}
}

// P19.2: of any three numbers, what stands ahead of what stands ahead stands ahead; what stands at one place with another one stands as that does to the third.
func TestAnyThree(t *testing.T) {
	l := numbers()
	for _, x := range l {
		for _, y := range l {
			for _, z := range l {
				wantLaw(t, x, y, z)
			}
		}
	}
	d := dice(3)
	for range 200000 {
		x := d.near()
		y := d.other(x)
		wantLaw(t, x, y, d.other(y))
	}
}

// wantOnePlace holds which two numbers stand at one place.
func wantOnePlace(t *testing.T, x, y float64) {
	t.Helper()
	want := x == 0 && y == 0 || x != x && y != y || score.Same(x, y)
	if (score.Order(x, y) == 0) != want {
		t.Fatalf("Order(%v, %v) = %d", x, y, score.Order(x, y))
	}
}

// P19.2: at one place stand just 0 and -0, NaNs, and what is Same; the Same are those with the same Bits.
func TestOnePlace(t *testing.T) {
	for _, x := range numbers() {
		for _, y := range numbers() {
			wantOnePlace(t, x, y)
			wantSame(t, x, y, score.Bits(x) == score.Bits(y))
		}
	}
	d := dice(4)
	for range 100000 {
		x := d.near()
		wantOnePlace(t, x, d.other(x))
	}
}
