package score_test

import (
	"math"
	"math/big"
)

// dice are numbers that only look random: the same ones in each run.
type dice uint64

func (d *dice) roll(n int) int {
	*d = *d*6364136223846793005 + 1442695040888963407
	return int(uint64(*d) >> 33 % uint64(n))
}

// pick is one of several.
func pick[T any](d *dice, l ...T) T { return l[d.roll(len(l))] }

// bits are any 64.
func (d *dice) bits() uint64 {
	return uint64(d.roll(1<<31))<<42 ^ uint64(d.roll(1<<31))<<21 ^ uint64(d.roll(1<<31))
}

var (
	nan  = math.NaN()
	inf  = math.Inf(1)
	deep = math.Inf(-1)
	zero = math.Copysign(0, -1) // -0
)

const (
	most  = math.MaxFloat64
	least = math.SmallestNonzeroFloat64
	small = 0x1p-1022 // the least number that has all its bits
)

// The kinds of numbers, each told by its bits: the exponent's eleven, and what is below them.
const (
	notANumber = iota
	minusInfinity
	negative
	naught
	positive
	infinity
)

// kind is a number's.
func kind(x float64) int {
	b := math.Float64bits(x)
	minus, exponent, below := b>>63 == 1, b>>52&0x7FF, b&(1<<52-1)
	switch {
	case exponent == 0x7FF && below != 0:
		return notANumber
	case exponent == 0x7FF && minus:
		return minusInfinity
	case exponent == 0x7FF:
		return infinity
	case exponent == 0 && below == 0:
		return naught
	case minus:
		return negative
	}
	return positive
}

// minus tells whether a number's sign is one, that of -0 too.
func minus(x float64) bool { return math.Float64bits(x)>>63 == 1 }

// signed is x with a sign.
func signed(x float64, minus bool) float64 {
	if minus {
		return math.Copysign(x, -1)
	}
	return math.Copysign(x, 1)
}

// endless tells whether a number is an infinity.
func endless(x float64) bool { return kind(x) == infinity || kind(x) == minusInfinity }

// exact is a number that is finite, without anything lost.
func exact(x float64) *big.Rat { return new(big.Rat).SetFloat64(x) }

// rounded is the float64 next to r, the even one of two; of 0 that with a sign.
func rounded(r *big.Rat, minus bool) float64 {
	if r.Sign() == 0 {
		return signed(0, minus)
	}
	x, _ := r.Float64()
	return x
}

// whole is the float64 next to a whole number.
func whole(n int) float64 { return rounded(new(big.Rat).SetInt64(int64(n)), false) }

// sum is x + y, reckoned without anything lost and rounded once; so are the ones below.
func sum(x, y float64) float64 {
	switch {
	case kind(x) == notANumber || kind(y) == notANumber || endless(x) && endless(y) && kind(x) != kind(y):
		return nan
	case endless(x):
		return x
	case endless(y):
		return y
	}
	return rounded(new(big.Rat).Add(exact(x), exact(y)), minus(x) && minus(y))
}

// difference is x - y.
func difference(x, y float64) float64 { return sum(x, signed(y, !minus(y))) }

// product is x · y.
func product(x, y float64) float64 {
	switch {
	case kind(x) == notANumber || kind(y) == notANumber || endless(x) && kind(y) == naught || kind(x) == naught && endless(y):
		return nan
	case endless(x) || endless(y):
		return signed(inf, minus(x) != minus(y))
	}
	return rounded(new(big.Rat).Mul(exact(x), exact(y)), minus(x) != minus(y))
}

// quotient is x / y.
func quotient(x, y float64) float64 {
	switch {
	case kind(x) == notANumber || kind(y) == notANumber || endless(x) && endless(y) || kind(x) == naught && kind(y) == naught:
		return nan
	case endless(x) || kind(y) == naught:
		return signed(inf, minus(x) != minus(y))
	case endless(y):
		return signed(0, minus(x) != minus(y))
	}
	return rounded(new(big.Rat).Quo(exact(x), exact(y)), minus(x) != minus(y))
}

// modelRare is the chapter's Rare.
func modelRare(n, m int) float64 {
	return quotient(sum(difference(whole(n), whole(m)), 0.5), sum(whole(m), 0.5))
}

// modelWorth is the chapter's Worth.
func modelWorth(k, b float64, times, length int, average float64) float64 {
	t, l, a := whole(times), whole(length), average
	return quotient(product(t, sum(k, 1)), sum(t, product(k, sum(difference(1, b), product(b, quotient(l, a))))))
}

// modelBits are a number's bits, those of any NaN the chapter's.
func modelBits(x float64) uint64 {
	if kind(x) == notANumber {
		return 0x7FF8000000000001
	}
	return math.Float64bits(x)
}

// modelOrder holds two numbers' kinds against each other, and only then their bits, which rise as a number goes away from 0.
func modelOrder(x, y float64) int {
	a, b := kind(x), kind(y)
	p, q := math.Float64bits(x), math.Float64bits(y)
	switch {
	case a != b:
		return sign(a < b, a > b)
	case a == positive:
		return sign(p < q, p > q)
	case a == negative:
		return sign(p > q, p < q)
	}
	return 0
}

// sign is -1 of ahead, 1 of behind, else 0.
func sign(ahead, behind bool) int {
	switch {
	case ahead:
		return -1
	case behind:
		return 1
	}
	return 0
}
