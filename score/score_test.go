package score_test

import (
	"math"
	"testing"

	"plover/score"
)

// same holds what was answered against what is asked, bit for bit but for what a NaN's are.
func same(got, want float64) bool { return modelBits(got) == modelBits(want) }

func wantRare(t *testing.T, n, m int, want float64) {
	t.Helper()
	for range 2 {
		if got := score.Rare(n, m); !same(got, want) {
			t.Fatalf("Rare(%d, %d) = %v (%x); want %v (%x)", n, m, got, modelBits(got), want, modelBits(want))
		}
	}
}

func wantWorth(t *testing.T, k, b float64, times, length int, average, want float64) {
	t.Helper()
	for range 2 {
		if got := score.Worth(k, b, times, length, average); !same(got, want) {
			t.Fatalf("Worth(%v, %v, %d, %d, %v) = %v (%x); want %v (%x)", k, b, times, length, average, got, modelBits(got), want, modelBits(want))
		}
	}
}

func wantOrder(t *testing.T, x, y float64, want int) {
	t.Helper()
	for range 2 {
		if got := score.Order(x, y); got != want {
			t.Fatalf("Order(%v, %v) = %d; want %d (bits %x, %x)", x, y, got, want, math.Float64bits(x), math.Float64bits(y))
		}
	}
}

func wantBits(t *testing.T, x float64, want uint64) {
	t.Helper()
	for range 2 {
		if got := score.Bits(x); got != want {
			t.Fatalf("Bits(%v) = %x; want %x (bits %x)", x, got, want, math.Float64bits(x))
		}
	}
}

func wantSame(t *testing.T, x, y float64, want bool) {
	t.Helper()
	for range 2 {
		if got := score.Same(x, y); got != want {
			t.Fatalf("Same(%v, %v) = %v; want %v (bits %x, %x)", x, y, got, want, math.Float64bits(x), math.Float64bits(y))
		}
	}
}

// P19.1: the chapter's examples.
func TestExamples(t *testing.T) {
	wantRare(t, 10, 0, 21)
	wantRare(t, 1, 1, 1.0/3)
	wantWorth(t, 1, 0, 1, 5, 5, 1)
	wantOrder(t, nan, deep, -1)
	wantOrder(t, 0, zero, 0)
	wantSame(t, 0, zero, false)
}

// P19.1: Rare of few; the bits are written out, so that what is less than the last one is told.
func TestRare(t *testing.T) {
	wantRare(t, 0, 0, 1)
	wantRare(t, 1, 0, 3)
	wantRare(t, 2, 1, 1)
	wantRare(t, 3, 1, 5.0/3)
	wantRare(t, 100, 7, 187.0/15)
	wantRare(t, 64, 64, math.Float64frombits(0x3F7FC07F01FC07F0)) // 1/129
	wantRare(t, 64, 1, math.Float64frombits(0x4045_2AAA_AAAA_AAAB))
}

// P19.1: Rare of more that have it than there are, and of numbers below 0: where a bracket is 0 or below it, too.
func TestRareBelow(t *testing.T) {
	wantRare(t, 0, 1, -1.0/3)
	wantRare(t, 1, 2, -0.2)
	wantRare(t, 0, 100, -99.5/100.5)
	wantRare(t, -1, 0, -1)
	wantRare(t, 0, -1, -3)
	wantRare(t, -1, -1, -1)
	wantRare(t, -5, -3, 0.6)
	wantRare(t, -3, -5, -2.5/4.5)
}

// P19.1: Rare of the ends of int, and of numbers that no float64 has: each is rounded by itself ahead of all else.
func TestRareFar(t *testing.T) {
	wantRare(t, math.MaxInt, 0, 0x1p64)
	wantRare(t, math.MinInt, 0, -0x1p64)
	wantRare(t, math.MaxInt, math.MinInt, -2) // what the difference of two ints hasn't
	wantRare(t, math.MinInt, math.MaxInt, -2)
	wantRare(t, math.MaxInt, math.MaxInt, 0x1p-64)
	wantRare(t, math.MinInt, math.MinInt, -0x1p-64)
	wantRare(t, 0, math.MaxInt, -1)
	wantRare(t, 0, math.MinInt, -1)
	wantRare(t, 1<<53+1, 1<<53, 0x1p-54) // both are 2^53
	wantRare(t, 1<<53+1, 1<<53+1, 0x1p-54)
	wantRare(t, 1<<53+3, 1<<53+4, 0.5/(0x1p53+4)) // both are 2^53 + 4
	wantRare(t, 1<<53+1, 0, 0x1p54)
	wantRare(t, 1<<53+2, 0, 2*(0x1p53+2))
	wantRare(t, 1<<53-1, 0, 0x1p54)       // midway, with the half: 2^53 is the even one
	wantRare(t, 1<<53-2, 0, 2*(0x1p53-2)) // this one is even already
	wantRare(t, 1<<52+1, 0, 2*(0x1p52+2))
	wantRare(t, 1<<51+1, 0, 2*(0x1p51+1.5))  // here nothing is lost
	wantRare(t, 1<<53, 1<<53-1, 1.5*0x1p-53) // below, 2^53
	wantRare(t, -(1<<53 + 1), 0, -0x1p54)
	wantRare(t, math.MaxInt, math.MaxInt-1, 0x1p-64)
	wantRare(t, math.MaxInt, math.MaxInt-511, 0x1p-64) // 2^63 - 512 stands midway, and 2^63 is the even one
	wantRare(t, math.MaxInt, math.MaxInt-512, 1024.5/(0x1p63-1024))
}

// P19.1: Worth of plain numbers; one that is longer than most is worth less, as far as b asks for it.
func TestWorth(t *testing.T) {
	wantWorth(t, 1, 0, 3, 5, 5, 1.5)
	wantWorth(t, 1, 1, 1, 10, 5, 2.0/3)
	wantWorth(t, 1, 1, 1, 5, 10, 4.0/3)
	wantWorth(t, 1, 0.5, 1, 10, 5, 0.8)
	wantWorth(t, 3, 0.25, 2, 3, 1, 8/6.5)
	wantWorth(t, 0, 0.75, 7, 3, 1, 1)
	wantWorth(t, 1.5, 0.5, 2, 0, 4, 5/2.75)
	wantWorth(t, -0.5, 0.5, 2, 4, 4, 1/1.5)
	wantWorth(t, 2, -1, 1, 2, 4, 3/4.0)
	wantWorth(t, 2, 3, 1, 4, 2, 3/9.0)
}

// P19.1: Worth of times and lengths of 0 and below.
func TestWorthOfNone(t *testing.T) {
	wantWorth(t, 1, 0.5, 0, 5, 5, 0)
	wantWorth(t, 1, 0.5, 0, -15, 5, zero)   // 0 through what is below 0
	wantWorth(t, -3, 0.5, 0, 5, 5, 0)       // -0 through -3
	wantWorth(t, -3, 0.5, 0, -15, 5, zero)  // -0 through 3
	wantWorth(t, 0, 0.5, 0, 5, 5, nan)      // 0 through 0
	wantWorth(t, 1, 0.5, -1, 5, 5, deep)    // -2 through 0
	wantWorth(t, -3, 0.5, 3, 5, 5, deep)    // -6 through 0
	wantWorth(t, -3, 0.5, -3, 5, 5, -1)     // 6 through -6
	wantWorth(t, 1, 0.5, -3, 5, 5, 3)       // -6 through -2
	wantWorth(t, 1, 0.5, 1, -5, 5, 2)       // the length weighs as much as the average
	wantWorth(t, 1, 0.5, 1, -10, 5, 4)      // 2 through 1/2
	wantWorth(t, 1, 0.5, 1, -15, 5, inf)    // 2 through 0
	wantWorth(t, 1, 0, -1, 5, 5, deep)      // -2 through 0
	wantWorth(t, -1, 0, 1, 5, 5, nan)       // 0 through 0
	wantWorth(t, -1, 0, 2, 5, 5, 0)         // 0 through 1
	wantWorth(t, -1, 0, -2, 5, 5, 0)        // -0 through -3
	wantWorth(t, -1, 0.5, -2, -30, 5, zero) // -0 through 1/2
}

// P19.1: Worth where there is no average, or one below 0.
func TestWorthOfNoAverage(t *testing.T) {
	wantWorth(t, 1, 0.5, 1, 5, 0, 0)       // 5/0 is endless
	wantWorth(t, 1, 0.5, 1, 5, zero, zero) // 5/-0 is endless below 0
	wantWorth(t, 1, 0.5, 1, -5, 0, zero)
	wantWorth(t, 1, 0.5, 1, -5, zero, 0)
	wantWorth(t, 1, 0.5, 1, 0, 0, nan)
	wantWorth(t, 1, 0.5, 1, 0, zero, nan)
	wantWorth(t, 1, 0, 1, 5, 0, nan) // 0 of what is endless
	wantWorth(t, 1, zero, 1, 5, 0, nan)
	wantWorth(t, 0, 0.5, 1, 5, 0, nan)
	wantWorth(t, zero, 0.5, 1, 5, 0, nan)
	wantWorth(t, 1, -0.5, 1, 5, 0, zero)
	wantWorth(t, 1, 1, 1, 10, -5, -2) // 2 through -1
	wantWorth(t, 1, 1, 2, 10, -5, inf)
	wantWorth(t, 1, 1, 3, 10, -5, 6)
	wantWorth(t, 1, 0.5, 0, 5, 0, 0)
	wantWorth(t, 1, 0.5, -1, 5, 0, zero)
}

// P19.1: Worth where a number is a NaN: whatever the other ones are.
func TestWorthOfNaN(t *testing.T) {
	for _, x := range nans {
		for _, y := range []float64{0, zero, 1, -1, inf, deep, most, least, nan} {
			for _, n := range []int{0, 1, -1, math.MaxInt, math.MinInt} {
				wantWorth(t, x, y, n, 3, y, nan)
				wantWorth(t, y, x, 3, n, y, nan)
				wantWorth(t, y, y, n, n, x, nan)
			}
		}
	}
}

// P19.1: Worth where a number is infinite.
func TestWorthOfInfinities(t *testing.T) {
	wantWorth(t, inf, 0.5, 1, 5, 5, nan)
	wantWorth(t, deep, 0.5, 1, 5, 5, nan)
	wantWorth(t, inf, 0.5, 0, 5, 5, nan)
	wantWorth(t, 1, inf, 1, 5, 5, nan) // an infinity less another one
	wantWorth(t, 1, deep, 1, 5, 5, nan)
	wantWorth(t, 1, inf, 1, -5, 5, zero)
	wantWorth(t, 1, deep, 1, -5, 5, 0)
	wantWorth(t, -1, inf, 1, -5, 5, 0)
	wantWorth(t, 1, inf, 1, 0, 5, nan)
	wantWorth(t, 1, 0.5, 1, 5, inf, 4/3.0) // 5 through an infinity is 0
	wantWorth(t, 1, 0.5, 1, 5, deep, 4/3.0)
	wantWorth(t, 1, 1, 1, 5, inf, 2)
	wantWorth(t, 1, 1, 0, 5, inf, nan)
	wantWorth(t, 0, inf, 1, -5, 5, nan)
	wantWorth(t, 0, inf, 0, 5, 5, nan)
}

// P19.1: Worth where an operation's answer is beyond the ends, or below the least that is not 0.
func TestWorthBeyond(t *testing.T) {
	wantWorth(t, most, 0, 1, 5, 5, 1)
	wantWorth(t, most, 0, 2, 5, 5, inf)   // the product is beyond
	wantWorth(t, -most, 0, 2, 5, 5, inf)  // both are below 0
	wantWorth(t, most, 0, -2, 5, 5, deep) // and here one is
	wantWorth(t, most, 1, 1, 10, 5, 0)    // what is below it is beyond
	wantWorth(t, most, 1, 2, 10, 5, nan)  // both are
	wantWorth(t, 1, most, 1, 10, 5, 0)    // b·2 is
	wantWorth(t, 1, -most, 1, 10, 5, zero)
	wantWorth(t, 1, 0.5, 1, 5, least, 0) // 5 through the least one is
	wantWorth(t, 1, 0, 1, 5, least, nan)
	wantWorth(t, 1, 1, 1, 1, most, 2)
	wantWorth(t, most, 1, 1, 1, most, most/2)
	wantWorth(t, least, 0, 1, 5, 5, 1)
	wantWorth(t, least, 0, 0, 5, 5, 0) // 0 through the least one
	wantWorth(t, -least, 0, 0, 5, 5, zero)
	wantWorth(t, least, 1, 0, 1, 2, nan) // a half of the least one is 0, as the even one of two
	wantWorth(t, least, 1, 0, 3, 4, 0)   // and three quarters of it are the least one
	wantWorth(t, -least, 1, 0, 1, 2, nan)
	wantWorth(t, 1, least, 0, 1, 2, 0)
	wantWorth(t, -1, 0x1p-54, 1, 0, 5, nan) // 1 - b is 1 still: 0 through 0
	wantWorth(t, -1, 0x1p-53, 1, 0, 5, 0)   // and here less than it: 0 through what is left
}
