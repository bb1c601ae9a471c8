package sat_test

import (
	"math"
	"math/big"
	"testing"

	"forerunner/sat"
)

const most = math.MaxUint64

// edges lie at both ends of the counts, around the powers of two at which a product or its upper half turns over, and in between.
var edges = []uint64{
	0, 1, 2, 3, 7, 10, 1000,
	1<<31 - 1, 1 << 31, 1<<32 - 1, 1 << 32, 1<<32 + 1,
	1 << 40, 0x123456789abcdef0, most / 3, most / 2, 1 << 63, 1<<63 + 1,
	most - 2, most - 1, most,
}

func whole(v uint64) *big.Int { return new(big.Int).SetUint64(v) }

// held tells by numbers without an end what a count must be.
func held(v *big.Int) uint64 {
	if v.Sign() < 0 {
		return 0
	}
	if !v.IsUint64() {
		return most
	}
	return v.Uint64()
}

// P1.1: sum, difference and product, held.

func TestAddSubMulByHand(t *testing.T) {
	for _, c := range []struct {
		name      string
		got, want uint64
	}{
		{"Add(3, 4)", sat.Add(3, 4), 7},
		{"Add(0, 0)", sat.Add(0, 0), 0},
		{"Add(most, 0)", sat.Add(most, 0), most},
		{"Add(most-1, 1)", sat.Add(most-1, 1), most},
		{"Add(most, 1)", sat.Add(most, 1), most},
		{"Add(2, most)", sat.Add(2, most), most},
		{"Add(most, most)", sat.Add(most, most), most},
		{"Add(1<<63, 1<<63)", sat.Add(1<<63, 1<<63), most},
		{"Sub(7, 3)", sat.Sub(7, 3), 4},
		{"Sub(3, 7)", sat.Sub(3, 7), 0},
		{"Sub(5, 5)", sat.Sub(5, 5), 0},
		{"Sub(0, 1)", sat.Sub(0, 1), 0},
		{"Sub(0, most)", sat.Sub(0, most), 0},
		{"Sub(most, 0)", sat.Sub(most, 0), most},
		{"Mul(3, 4)", sat.Mul(3, 4), 12},
		{"Mul(0, most)", sat.Mul(0, most), 0},
		{"Mul(most, 0)", sat.Mul(most, 0), 0},
		{"Mul(most, 1)", sat.Mul(most, 1), most},
		{"Mul(most, 2)", sat.Mul(most, 2), most},
		{"Mul(1<<32, 1<<32)", sat.Mul(1<<32, 1<<32), most},
		{"Mul(1<<32, 1<<31)", sat.Mul(1<<32, 1<<31), 1 << 63},
		{"Mul(1<<32-1, 1<<32+1)", sat.Mul(1<<32-1, 1<<32+1), most},
		{"Mul(1<<40, 1<<24)", sat.Mul(1<<40, 1<<24), most},
	} {
		if c.got != c.want {
			t.Errorf("%s: %d, not %d", c.name, c.got, c.want)
		}
	}
}

func TestAddSubMulAtEdges(t *testing.T) {
	for _, a := range edges {
		for _, b := range edges {
			x, y := whole(a), whole(b)
			if got, want := sat.Add(a, b), held(new(big.Int).Add(x, y)); got != want {
				t.Errorf("Add(%d, %d): %d, not %d", a, b, got, want)
			}
			if got, want := sat.Sub(a, b), held(new(big.Int).Sub(x, y)); got != want {
				t.Errorf("Sub(%d, %d): %d, not %d", a, b, got, want)
			}
			if got, want := sat.Mul(a, b), held(new(big.Int).Mul(x, y)); got != want {
				t.Errorf("Mul(%d, %d): %d, not %d", a, b, got, want)
			}
		}
	}
}

// P1.2: how products stand to each other, never held; a product by a number, held.

func TestCrossByHand(t *testing.T) {
	for _, c := range []struct {
		a, b, c, d uint64
		want       int
	}{
		{1, 2, 3, 4, -1},
		{2, 6, 3, 4, 0},
		{3, 4, 1, 2, 1},
		{0, most, 0, 0, 0},
		{0, most, 1, 1, -1},
		{most, most, most, most - 1, 1},
		{most, most - 1, most, most, -1},
		{most, most, most, most, 0},
		{1 << 63, 2, 1 << 62, 5, -1},
		{1 << 32, 1 << 32, 1, 1, 1},
		{1 << 32, 1 << 32, 1 << 33, 1 << 31, 0},
		{1 << 32, 1 << 32, 1, most, 1},
	} {
		if got := sat.Cross(c.a, c.b, c.c, c.d); got != c.want {
			t.Errorf("Cross(%d, %d, %d, %d): %d, not %d", c.a, c.b, c.c, c.d, got, c.want)
		}
	}
}

func TestCrossAtEdges(t *testing.T) {
	for _, a := range edges {
		for _, b := range edges {
			left := new(big.Int).Mul(whole(a), whole(b))
			for _, c := range edges {
				for _, d := range edges {
					want := left.Cmp(new(big.Int).Mul(whole(c), whole(d)))
					if got := sat.Cross(a, b, c, d); got != want {
						t.Fatalf("Cross(%d, %d, %d, %d): %d, not %d", a, b, c, d, got, want)
					}
				}
			}
		}
	}
}

func TestScaleByHand(t *testing.T) {
	for _, c := range []struct {
		a, b, c, q uint64
		ok         bool
	}{
		{7, 3, 2, 10, true},
		{6, 4, 3, 8, true},
		{1, 1, 2, 0, true},
		{0, 9, 4, 0, true},
		{0, 0, most, 0, true},
		{most, 10, 100, most / 10, true},
		{most, most, most, most, true},
		{most, most, most - 1, most, true}, // most + 1 and a rest: held
		{most, most - 1, most, most - 1, true},
		{most, most, 2, most, true},
		{most, most, 1, most, true},
		{1 << 63, 2, 1, most, true}, // 2^64: held
		{1 << 63, 2, 2, 1 << 63, true},
		{1 << 63, 1, 1, 1 << 63, true},
		{5, 5, 0, 0, false},
		{0, 0, 0, 0, false},
		{most, most, 0, 0, false},
	} {
		if q, ok := sat.Scale(c.a, c.b, c.c); q != c.q || ok != c.ok {
			t.Errorf("Scale(%d, %d, %d): %d %v, not %d %v", c.a, c.b, c.c, q, ok, c.q, c.ok)
		}
	}
}

func TestScaleAtEdges(t *testing.T) {
	for _, a := range edges {
		for _, b := range edges {
			product := new(big.Int).Mul(whole(a), whole(b))
			for _, c := range edges {
				var want uint64
				if c != 0 {
					want = held(new(big.Int).Quo(product, whole(c)))
				}
				if got, ok := sat.Scale(a, b, c); got != want || ok != (c != 0) {
					t.Fatalf("Scale(%d, %d, %d): %d %v, not %d %v", a, b, c, got, ok, want, c != 0)
				}
			}
		}
	}
}

// P1.3: within bounds; the lower one, if the bounds are the wrong way round.

func TestClamp(t *testing.T) {
	const low, high = math.MinInt64, math.MaxInt64
	for _, c := range []struct{ v, lo, hi, want int64 }{
		{5, 0, 9, 5},
		{0, 0, 9, 0},
		{9, 0, 9, 9},
		{-1, 0, 9, 0},
		{10, 0, 9, 9},
		{-5, -9, -3, -5},
		{-10, -9, -3, -9},
		{0, -9, -3, -3},
		{4, 4, 4, 4},
		{3, 4, 4, 4},
		{5, 4, 4, 4},
		{low, low, high, low},
		{high, low, high, high},
		{low, 0, high, 0},
		{high, low, 0, 0},
		{5, 7, 6, 7},
		{6, 7, 6, 7},
		{7, 7, 6, 7},
		{9, 7, 6, 7},
		{0, high, low, high},
		{low, high, low, high},
		{high, high, low, high},
	} {
		if got := sat.Clamp(c.v, c.lo, c.hi); got != c.want {
			t.Errorf("Clamp(%d, %d, %d): %d, not %d", c.v, c.lo, c.hi, got, c.want)
		}
	}
}

func TestClampAtEdges(t *testing.T) {
	ends := []int64{math.MinInt64, math.MinInt64 + 1, -3, -2, -1, 0, 1, 2, 3, math.MaxInt64 - 1, math.MaxInt64}
	for _, v := range ends {
		for _, lo := range ends {
			for _, hi := range ends {
				if got, want := sat.Clamp(v, lo, hi), max(lo, min(v, hi)); got != want {
					t.Errorf("Clamp(%d, %d, %d): %d, not %d", v, lo, hi, got, want)
				}
			}
		}
	}
}

// P1.4: what follows.

func TestOrderDoesNotMatter(t *testing.T) {
	for _, a := range edges {
		for _, b := range edges {
			if sat.Add(a, b) != sat.Add(b, a) || sat.Mul(a, b) != sat.Mul(b, a) {
				t.Fatalf("%d and %d: the order of two is told", a, b)
			}
			for _, c := range edges {
				if sat.Add(sat.Add(a, b), c) != sat.Add(a, sat.Add(b, c)) {
					t.Fatalf("Add of %d, %d and %d: the order of three is told", a, b, c)
				}
				if sat.Mul(sat.Mul(a, b), c) != sat.Mul(a, sat.Mul(b, c)) {
					t.Fatalf("Mul of %d, %d and %d: the order of three is told", a, b, c)
				}
			}
		}
	}
}

func TestMoreIsNeverLess(t *testing.T) {
	for _, a := range edges {
		for _, b := range edges {
			if sat.Add(a, b) < a {
				t.Errorf("Add(%d, %d) is less than %d", a, b, a)
			}
			if b != 0 && sat.Mul(a, b) < a {
				t.Errorf("Mul(%d, %d) is less than %d", a, b, a)
			}
			for _, more := range edges {
				if more >= b && (sat.Add(a, more) < sat.Add(a, b) || sat.Mul(a, more) < sat.Mul(a, b)) {
					t.Errorf("%d with %d is less than with %d", a, more, b)
				}
			}
		}
	}
}

// P1.1, P1.2: any counts, the same ones in each run.

func TestAnyCounts(t *testing.T) {
	state := uint64(1)
	// The numbers are cut to all lengths, so that products lie on both sides of the end.
	next := func() uint64 {
		state = state*6364136223846793005 + 1442695040888963407
		v := state ^ state>>29
		state = state*6364136223846793005 + 1442695040888963407
		return v >> (state >> 58)
	}
	for range 20000 {
		a, b, c, d := next(), next(), next(), next()
		left, right := new(big.Int).Mul(whole(a), whole(b)), new(big.Int).Mul(whole(c), whole(d))
		if got, want := sat.Mul(a, b), held(left); got != want {
			t.Fatalf("Mul(%d, %d): %d, not %d", a, b, got, want)
		}
		if got, want := sat.Add(a, b), held(new(big.Int).Add(whole(a), whole(b))); got != want {
			t.Fatalf("Add(%d, %d): %d, not %d", a, b, got, want)
		}
		if got, want := sat.Sub(a, b), held(new(big.Int).Sub(whole(a), whole(b))); got != want {
			t.Fatalf("Sub(%d, %d): %d, not %d", a, b, got, want)
		}
		if got, want := sat.Cross(a, b, c, d), left.Cmp(right); got != want {
			t.Fatalf("Cross(%d, %d, %d, %d): %d, not %d", a, b, c, d, got, want)
		}
		if c == 0 {
			continue
		}
		if got, ok := sat.Scale(a, b, c); !ok || got != held(new(big.Int).Quo(left, whole(c))) {
			t.Fatalf("Scale(%d, %d, %d): %d %v", a, b, c, got, ok)
		}
	}
}
