package gauge_test

import (
	"math"
	"math/big"
	"slices"
	"testing"

	"forerunner/gauge"
)

const (
	theNaN  = 0x7ff8000000000001
	posInf  = 0x7ff0000000000000
	negInf  = 0xfff0000000000000
	negZero = 1 << 63
	tiny    = 1                  // the least float64 above 0
	huge    = 0x7fefffffffffffff // the greatest finite float64
	most    = math.MaxUint64
)

// nans are no numbers: quiet and signalling ones, of either sign.
var nans = []uint64{
	theNaN, 0x7ff8000000000000, 0x7ff0000000000001, 0x7ff0000000000099, 0x7fffffffffffffff,
	0xfff8000000000000, 0xfff8000000000001, 0xfff8000000000009, 0xfff0000000000001, 0xffffffffffffffff,
}

// counts lie at both ends, and where a float64 must round them: behind 2^53, up and down, and by halves.
var counts = []uint64{
	0, 1, 2, 3, 4, 7, 10, 100, 1000,
	1<<32 - 1, 1 << 32, 1<<53 - 1, 1 << 53, 1<<53 + 1, 1<<53 + 2, 1<<53 + 3, 1<<54 + 2, 1<<54 + 6,
	1<<63 - 1, 1 << 63, 1<<63 + 1, 1<<63 + 1024, 1<<63 + 1025, 1<<63 + 3072, most - 1025, most - 1024, most - 1023, most - 1, most,
}

func bits(v float64) uint64    { return math.Float64bits(v) }
func value(g uint64) float64   { return math.Float64frombits(g) }
func negative(g uint64) uint64 { return g ^ negZero }

// ranks are the gauges in their order: those of one row are alike.
func ranks() [][]uint64 {
	return [][]uint64{
		nans,
		{negInf},
		{negative(huge)},
		{bits(-2)},
		{bits(-1)},
		{negative(bits(math.Nextafter(1, 0)))},
		{negative(0x0010000000000000)},
		{negative(tiny)},
		{0, negZero},
		{tiny},
		{0x0010000000000000},
		{bits(0.25)},
		{bits(math.Nextafter(1, 0))},
		{bits(1)},
		{bits(math.Nextafter(1, 2))},
		{bits(2)},
		{huge},
		{posInf},
	}
}

func all() []uint64 { return slices.Concat(ranks()...) }

// exact are numbers of so many bits that sums and products of float64 numbers aren't rounded.
func exact() *big.Float { return new(big.Float).SetPrec(2200) }

// P2.1: part by whole, both rounded first.

func TestRateByHand(t *testing.T) {
	for _, c := range []struct{ part, whole, want uint64 }{
		{1, 4, bits(0.25)},
		{3, 4, bits(0.75)},
		{4, 4, bits(1)},
		{5, 4, bits(1.25)},
		{0, 7, 0},
		{0, most, 0},
		{1, 3, 0x3fd5555555555555},
		{2, 3, 0x3fe5555555555555},
		{1, 10, 0x3fb999999999999a},
		{1, 0, posInf},
		{7, 0, posInf},
		{most, 0, posInf},
		{0, 0, theNaN},
		{most, most, bits(1)},
		{most - 1, most, bits(1)}, // both are 2^64, rounded
		{most, 1, bits(1 << 64)},
		{1, most, bits(0x1p-64)},
		{1<<53 + 1, 1, bits(1 << 53)},
		{1<<53 + 1, 1 << 53, bits(1)},
		{1<<53 + 3, 1, bits(1<<53 + 4)},
		{1<<63 + 1024, 1, bits(1 << 63)},
		{1<<63 + 1025, 1, bits(1<<63 + 2048)},
		{1<<53 + 1, 3, 0x4325555555555555}, // were it not rounded first, it would be 3002399751580331
	} {
		if got := gauge.Rate(c.part, c.whole); got != c.want {
			t.Errorf("Rate(%d, %d): %#x, not %#x", c.part, c.whole, got, c.want)
		}
	}
}

// wantRate divides in numbers of 53 bits, with no float64 at hand.
func wantRate(part, whole uint64) uint64 {
	p := new(big.Float).SetPrec(53).SetUint64(part)
	w := new(big.Float).SetPrec(53).SetUint64(whole)
	if w.Sign() == 0 {
		if p.Sign() == 0 {
			return theNaN
		}
		return posInf
	}
	v, _ := new(big.Float).SetPrec(53).Quo(p, w).Float64()
	return bits(v)
}

func TestRateAtEdges(t *testing.T) {
	for _, part := range counts {
		for _, whole := range counts {
			if got, want := gauge.Rate(part, whole), wantRate(part, whole); got != want {
				t.Errorf("Rate(%d, %d): %#x, not %#x", part, whole, got, want)
			}
		}
	}
}

// P2.2: the order, and the greatest.

func TestCmp(t *testing.T) {
	rows := ranks()
	for i, row := range rows {
		for k, other := range rows {
			want := 0
			if i < k {
				want = -1
			} else if i > k {
				want = 1
			}
			for _, a := range row {
				for _, b := range other {
					if got := gauge.Cmp(a, b); got != want {
						t.Errorf("Cmp(%#x, %#x): %d, not %d", a, b, got, want)
					}
				}
			}
		}
	}
}

func TestBest(t *testing.T) {
	one, two := bits(1), bits(2)
	for _, c := range []struct {
		name string
		l    []uint64
		want int
		ok   bool
	}{
		{"nil", nil, 0, false},
		{"none", []uint64{}, 0, false},
		{"one", []uint64{one}, 0, true},
		{"a NaN alone", []uint64{theNaN}, 0, true},
		{"rising", []uint64{0, one, two}, 2, true},
		{"falling", []uint64{two, one, 0}, 0, true},
		{"between", []uint64{one, two, 0}, 1, true},
		{"alike", []uint64{one, two, one, two}, 1, true},
		{"all alike", []uint64{one, one, one}, 0, true},
		{"zeros", []uint64{negZero, 0}, 0, true},
		{"zeros, the other way", []uint64{0, negZero}, 0, true},
		{"zeros behind less", []uint64{theNaN, bits(-1), negZero, 0}, 2, true},
		{"NaNs", []uint64{0x7ff0000000000001, theNaN, 0xffffffffffffffff, 0x7fffffffffffffff}, 0, true},
		{"a NaN, then -Inf", []uint64{theNaN, negInf}, 1, true},
		{"+Inf, then a NaN of greater bits", []uint64{posInf, 0x7fffffffffffffff}, 0, true},
		{"NaNs around", []uint64{theNaN, one, 0xffffffffffffffff, two, theNaN}, 3, true},
		{"below 0", []uint64{bits(-3), bits(-1), bits(-2)}, 1, true},
		{"without an end", []uint64{huge, posInf, negInf, posInf}, 1, true},
		{"close to each other", []uint64{bits(1), bits(math.Nextafter(1, 2)), bits(math.Nextafter(1, 0))}, 1, true},
	} {
		before := slices.Clone(c.l)
		if got, ok := gauge.Best(c.l); got != c.want || ok != c.ok {
			t.Errorf("Best of %s: %d %v, not %d %v", c.name, got, ok, c.want, c.ok)
		}
		if !slices.Equal(c.l, before) {
			t.Errorf("Best of %s: the list was changed", c.name)
		}
	}
}

func TestBestIsTheFirstThatNoneIsAbove(t *testing.T) {
	l := all()
	for i := range l {
		turned := slices.Concat(l[i:], l[:i])
		got, ok := gauge.Best(turned)
		if want := slices.Index(turned, posInf); !ok || got != want {
			t.Errorf("Best of all, turned by %d: %d %v, not %d", i, got, ok, want)
		}
	}
}

// P2.3: means, and percents.

func TestMeanByHand(t *testing.T) {
	for _, c := range []struct{ a, b, want uint64 }{
		{bits(1), bits(2), bits(1.5)},
		{bits(2), bits(1), bits(1.5)},
		{bits(0.25), bits(0.75), bits(0.5)},
		{bits(-1), bits(1), 0},
		{bits(-3), bits(-1), bits(-2)},
		{0, 0, 0},
		{0, negZero, 0},
		{negZero, negZero, negZero},
		{huge, huge, huge}, // the sum of both, unhalved, would have no end
		{negative(huge), negative(huge), negative(huge)},
		{huge, negative(huge), 0},
		{posInf, bits(1), posInf},
		{bits(1), negInf, negInf},
		{posInf, posInf, posInf},
		{negInf, negInf, negInf},
		{posInf, negInf, theNaN},
		{negInf, posInf, theNaN},
		{theNaN, theNaN, theNaN},
		{theNaN, bits(1), theNaN},
		{posInf, 0xfff8000000000009, theNaN},
		{0x7ff0000000000099, 0, theNaN},
		{0, 0xffffffffffffffff, theNaN},
		// Each half is rounded, to the even one: of 1 and 1 it is 0, of 3 and 3 it is 4.
		{1, 1, 0},
		{3, 3, 4},
		{1, 3, 2},
		{negative(1), negative(1), negZero},
		{negative(1), 0, 0},
		{5, 5, 4},
		{7, 7, 8},
	} {
		if got := gauge.Mean(c.a, c.b); got != c.want {
			t.Errorf("Mean(%#x, %#x): %#x, not %#x", c.a, c.b, got, c.want)
		}
	}
}

// half of a finite one, rounded to a float64.
func half(g uint64) *big.Float {
	v, _ := exact().Mul(exact().SetFloat64(value(g)), big.NewFloat(0.5)).Float64()
	return exact().SetFloat64(v)
}

func finite(g uint64) bool { return !math.IsNaN(value(g)) && !math.IsInf(value(g), 0) }

func TestMeanOfFinite(t *testing.T) {
	list := append(all(), 2, 3, 5, 7, 0x000fffffffffffff, 0x0010000000000001, 0x0020000000000001, bits(1.0/3), bits(0x1p52), bits(0x1p53+2))
	for _, a := range list {
		for _, b := range list {
			if !finite(a) || !finite(b) {
				continue
			}
			want, _ := exact().Add(half(a), half(b)).Float64()
			// What it is of 0 is told by hand: here the sign of it isn't.
			if got := value(gauge.Mean(a, b)); got != want {
				t.Errorf("Mean(%#x, %#x): %g, not %g", a, b, got, want)
			}
		}
	}
}

func TestMeanOfNoNumber(t *testing.T) {
	for _, n := range nans {
		for _, g := range all() {
			if got := gauge.Mean(n, g); got != theNaN {
				t.Errorf("Mean(%#x, %#x): %#x, not the NaN", n, g, got)
			}
			if got := gauge.Mean(g, n); got != theNaN {
				t.Errorf("Mean(%#x, %#x): %#x, not the NaN", g, n, got)
			}
		}
	}
}

func TestPercentByHand(t *testing.T) {
	for _, c := range []struct {
		g    uint64
		want int
	}{
		{0, 0},
		{negZero, 0},
		{tiny, 0},
		{bits(0.0099), 0},
		{bits(0.01), 1},
		{bits(0.25), 25},
		{bits(1.0 / 3), 33},
		{bits(2.0 / 3), 66},
		{bits(0.07), 7}, // 7.000000000000001, as float64 numbers are multiplied
		{bits(0.29), 28},
		{bits(0.57), 56},
		{bits(0.58), 57},
		{bits(0.5), 50},
		{bits(0.995), 99},
		{bits(0.999), 99},
		{bits(math.Nextafter(1, 0)), 99},
		{bits(1), 100},
		{bits(math.Nextafter(1, 2)), 100},
		{bits(1.01), 100},
		{bits(2), 100},
		{bits(1e18), 100},
		{bits(1e19), 100},
		{huge, 100},
		{posInf, 100},
		{negative(tiny), 0},
		{bits(-0.001), 0},
		{bits(-0.5), 0},
		{bits(-1), 0},
		{bits(-1e19), 0},
		{negative(huge), 0},
		{negInf, 0},
		{theNaN, 0},
	} {
		if got := gauge.Percent(c.g); got != c.want {
			t.Errorf("Percent(%#x): %d, not %d", c.g, got, c.want)
		}
	}
	for _, n := range nans {
		if got := gauge.Percent(n); got != 0 {
			t.Errorf("Percent(%#x): %d, not 0", n, got)
		}
	}
}

func TestPercentOfParts(t *testing.T) {
	for whole := uint64(1); whole <= 200; whole++ {
		for part := uint64(0); part <= whole; part++ {
			g := wantRate(part, whole)
			product, _ := exact().Mul(exact().SetFloat64(value(g)), big.NewFloat(100)).Float64()
			want, _ := big.NewFloat(product).Int64() // which cuts the rest off
			if got := gauge.Percent(g); int64(got) != want {
				t.Errorf("Percent of %d by %d: %d, not %d", part, whole, got, want)
			}
		}
	}
}

// P2.4: what follows.

func TestPartOfWholeIsFromNoneToAll(t *testing.T) {
	for _, part := range counts {
		for _, whole := range counts {
			if part > whole || whole == 0 {
				continue
			}
			g := gauge.Rate(part, whole)
			if gauge.Cmp(g, 0) < 0 || gauge.Cmp(g, bits(1)) > 0 {
				t.Errorf("Rate(%d, %d): %#x isn't from 0 to 1", part, whole, g)
			}
		}
	}
}

func TestPercentIsWithinBounds(t *testing.T) {
	for _, g := range all() {
		if p := gauge.Percent(g); p < 0 || p > 100 {
			t.Errorf("Percent(%#x): %d isn't from 0 to 100", g, p)
		}
	}
}

func TestAGreaterGaugeHasNoLesserPercent(t *testing.T) {
	l := all() // in their order, but for those that are alike
	for i := 1; i < len(l); i++ {
		if gauge.Percent(l[i-1]) > gauge.Percent(l[i]) {
			t.Errorf("Percent(%#x) is above Percent(%#x)", l[i-1], l[i])
		}
	}
}

// P2.1 to P2.4: any bits, the same ones in each run.

func TestAnyBits(t *testing.T) {
	state := uint64(1)
	next := func() uint64 {
		state = state*6364136223846793005 + 1442695040888963407
		return state ^ state>>29
	}
	for range 20000 {
		a, b := next(), next()
		if got, want := gauge.Rate(a, b), wantRate(a, b); got != want {
			t.Fatalf("Rate(%d, %d): %#x, not %#x", a, b, got, want)
		}
		if gauge.Cmp(a, b) != -gauge.Cmp(b, a) || gauge.Cmp(a, a) != 0 {
			t.Fatalf("Cmp of %#x and %#x hangs on their places", a, b)
		}
		if gauge.Mean(a, b) != gauge.Mean(b, a) {
			t.Fatalf("Mean of %#x and %#x hangs on their places", a, b)
		}
		if p := gauge.Percent(a); p < 0 || p > 100 {
			t.Fatalf("Percent(%#x): %d", a, p)
		}
		if !finite(a) || !finite(b) {
			continue
		}
		if got, want := gauge.Cmp(a, b), exact().SetFloat64(value(a)).Cmp(exact().SetFloat64(value(b))); got != want {
			t.Fatalf("Cmp(%#x, %#x): %d, not %d", a, b, got, want)
		}
	}
}
