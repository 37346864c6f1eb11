package score_test

import (
	"math"
	"math/big"
	"testing"
)

// count is a whole number: a small one, one of few bits, one near those that no float64 has, one at the ends, or any.
func (d *dice) count() int {
	switch d.roll(6) {
	case 0, 1:
		return d.roll(70)
	case 2:
		return d.roll(100) - 50
	case 3:
		return int(d.bits()) >> d.roll(64)
	case 4:
		return pick(d, 1, -1)*(1<<pick(d, 24, 52, 53, 53, 53, 54, 60, 62)) + d.roll(9) - 4
	}
	return pick(d, math.MinInt, math.MaxInt) + d.roll(2100) - 1050
}

// P19.1: Rare of drawn numbers, those among them that no float64 has, those of n less than m and below 0, against the model.
func TestDrawnRare(t *testing.T) {
	d := dice(5)
	for range 30000 {
		n, m := d.count(), d.count()
		if d.roll(4) == 0 {
			m = n + d.roll(2000) - 1000
		}
		wantRare(t, n, m, modelRare(n, m))
		wantRare(t, n, -n, modelRare(n, -n))
	}
}

// P19.1: Rare of all small numbers, and of all of the ends and of those that no float64 has, against the model.
func TestAllRare(t *testing.T) {
	var l []int
	for n := -20; n <= 70; n++ {
		l = append(l, n)
	}
	for _, n := range []int{1 << 24, 1 << 31, 1 << 52, 1 << 53, 1 << 54, 1<<63 - 1, 1<<63 - 512, 1<<63 - 1024} {
		for by := -3; by <= 3; by++ {
			l = append(l, n+by, -n+by) // beyond the last int comes the first one
		}
	}
	for _, n := range l {
		for _, m := range l {
			wantRare(t, n, m, modelRare(n, m))
		}
	}
}

// r is x, rounded to a float64 where it stands, so that no operation is put together with it.
func r(x float64) float64 { return float64(x) }

// rares are ways to reckon Rare that are not the chapter's: each turns some answers.
var rares = map[string]func(n, m float64) float64{
	"the half first":    func(n, m float64) float64 { return (n - r(m-0.5)) / r(m+0.5) },
	"n and the half":    func(n, m float64) float64 { return (r(n+0.5) - m) / r(m+0.5) },
	"one through":       func(n, m float64) float64 { return 1 / (r(m+0.5) / r(r(n-m)+0.5)) },
	"times one through": func(n, m float64) float64 { return r(r(n-m)+0.5) * r(1/r(m+0.5)) },
	"two parts":         func(n, m float64) float64 { return r(n+1)/r(m+0.5) - 1 },
	"in 32 bits":        func(n, m float64) float64 { return float64((float32(n) - float32(m) + 0.5) / (float32(m) + 0.5)) },
	"rounded last":      roundedLast,
}

// roundedLast is Rare of n and m, rounded but once.
func roundedLast(n, m float64) float64 {
	half := big.NewRat(1, 2)
	above := new(big.Rat).Add(new(big.Rat).Sub(exact(n), exact(m)), half)
	return rounded(above.Quo(above, new(big.Rat).Add(exact(m), half)), false)
}

// P19.1: Rare's operations done in another order, put together, or done with whole numbers, answer otherwise of some numbers: so such a one is told.
func TestRareInOtherOrder(t *testing.T) {
	told := map[string]int{}
	d := dice(6)
	for range 20000 {
		n, m := d.count(), d.count()
		want := modelRare(n, m)
		wantRare(t, n, m, want)
		for name, f := range rares {
			if !same(f(whole(n), whole(m)), want) {
				told[name]++
			}
		}
		if !same(quotient(sum(whole(n-m), 0.5), sum(whole(m), 0.5)), want) {
			told["whole numbers"]++
		}
	}
	if len(told) != len(rares)+1 {
		t.Errorf("told are %v", told)
	}
	for name, times := range told {
		if times < 50 {
			t.Errorf("%s: told %d times", name, times)
		}
	}
}

// plain is a number of the kind that a configuration has.
func (d *dice) plain() float64 {
	return pick(d, float64(d.roll(300))/100, float64(d.roll(17))/8, float64(d.roll(1<<31))/(1<<30), float64(d.roll(100)))
}

// any is any number, often a plain one or one out of the list.
func (d *dice) any() float64 {
	switch d.roll(4) {
	case 0:
		return d.plain()
	case 1:
		return pick(d, numbers()...)
	case 2:
		return pick(d, 0, zero, 1, -1, inf, deep, nan, most, -most, least, -least)
	}
	return d.near()
}

// P19.1: Worth of drawn numbers of any bits, times and lengths of all sizes, against the model.
func TestDrawnWorth(t *testing.T) {
	d := dice(7)
	met := map[int]int{}
	for range 60000 {
		k, b, average := d.any(), d.any(), d.any()
		times, length := d.count(), d.count()
		want := modelWorth(k, b, times, length, average)
		wantWorth(t, k, b, times, length, average, want)
		met[kind(want)]++
	}
	for _, k := range []int{notANumber, minusInfinity, negative, naught, positive, infinity} {
		if met[k] < 200 {
			t.Errorf("an answer of the kind %d met %d times", k, met[k])
		}
	}
}

// worths are ways to reckon Worth that are not the chapter's: each turns some answers.
var worths = map[string]func(k, b, t, l, a float64) float64{
	"b put together":        func(k, b, t, l, a float64) float64 { return r(t*r(k+1)) / r(t+r(k*math.FMA(b, r(l/a), r(1-b)))) },
	"k put together":        func(k, b, t, l, a float64) float64 { return r(t*r(k+1)) / math.FMA(k, r(r(1-b)+r(b*r(l/a))), t) },
	"t put together":        func(k, b, t, l, a float64) float64 { return math.FMA(t, k, t) / below(k, b, t, l, a) },
	"t of both":             func(k, b, t, l, a float64) float64 { return r(r(t*k)+t) / below(k, b, t, l, a) },
	"b first":               func(k, b, t, l, a float64) float64 { return r(t*r(k+1)) / r(t+r(k*r(r(1-b)+r(r(b*l)/a)))) },
	"b through":             func(k, b, t, l, a float64) float64 { return r(t*r(k+1)) / r(t+r(k*r(r(1-b)+r(l*r(b/a))))) },
	"one through":           func(k, b, t, l, a float64) float64 { return r(t*r(k+1)) / r(t+r(k*r(r(1-b)+r(b*r(l*r(1/a)))))) },
	"b of both":             func(k, b, t, l, a float64) float64 { return r(t*r(k+1)) / r(t+r(k*r(1-r(b*r(1-r(l/a)))))) },
	"b taken last":          func(k, b, t, l, a float64) float64 { return r(t*r(k+1)) / r(t+r(k*r(r(1+r(b*r(l/a)))-b))) },
	"b taken from b":        func(k, b, t, l, a float64) float64 { return r(t*r(k+1)) / r(t+r(k*r(1-r(b-r(b*r(l/a)))))) },
	"k of both":             func(k, b, t, l, a float64) float64 { return r(t*r(k+1)) / r(t+r(r(k*r(1-b))+r(k*r(b*r(l/a))))) },
	"k of both, one by one": func(k, b, t, l, a float64) float64 { return r(t*r(k+1)) / r(r(t+r(k*r(1-b)))+r(k*r(b*r(l/a)))) },
	"t last":                func(k, b, t, l, a float64) float64 { return t * r(r(k+1)/below(k, b, t, l, a)) },
	"t through":             func(k, b, t, l, a float64) float64 { return r(k+1) * r(t/below(k, b, t, l, a)) },
	"times one through":     func(k, b, t, l, a float64) float64 { return r(t*r(k+1)) * r(1/below(k, b, t, l, a)) },
	"through t":             func(k, b, t, l, a float64) float64 { return r(k+1) / r(1+r(r(k*r(r(1-b)+r(b*r(l/a))))/t)) },
	"in 32 bits":            worth32,
}

// below is what stands below the line.
func below(k, b, t, l, a float64) float64 { return r(t + r(k*r(r(1-b)+r(b*r(l/a))))) }

// worth32 is Worth, each operation rounded to 32 bits.
func worth32(k, b, t, l, a float64) float64 {
	x, y, n, m, o := float32(k), float32(b), float32(t), float32(l), float32(a)
	part := float32(y * float32(m/o))
	return float64(float32(n*float32(x+1)) / float32(n+float32(x*float32(float32(1-y)+part))))
}

// P19.1: Worth's operations done in another order, or put together, answer otherwise of some plain numbers: so such a one is told.
func TestWorthInOtherOrder(t *testing.T) {
	told := map[string]int{}
	d := dice(8)
	for range 20000 {
		k, b, average := d.plain(), d.plain(), float64(1+d.roll(1000))/float64(1+d.roll(20))
		times, length := 1+d.roll(20), d.roll(64)
		want := modelWorth(k, b, times, length, average)
		wantWorth(t, k, b, times, length, average, want)
		for name, f := range worths {
			if !same(f(k, b, whole(times), whole(length), average), want) {
				told[name]++
			}
		}
	}
	if len(told) != len(worths) {
		t.Errorf("told are %v", told)
	}
	for name, times := range told {
		if times < 50 {
			t.Errorf("%s: told %d times", name, times)
		}
	}
}

// P19.1: Worth of any of the ends together, against the model.
func TestWorthOfEnds(t *testing.T) {
	l := []float64{0, zero, 1, -1, 0.5, nan, inf, deep, most, -most, least, -least}
	counts := []int{0, 1, -1, 2, -2, math.MaxInt, math.MinInt}
	for _, k := range l {
		for _, b := range l {
			for _, average := range l {
				for _, times := range counts {
					for _, length := range counts {
						wantWorth(t, k, b, times, length, average, modelWorth(k, b, times, length, average))
					}
				}
			}
		}
	}
}
