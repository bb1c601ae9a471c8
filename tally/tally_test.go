package tally_test

import (
	"math"
	"math/big"
	"testing"

	"forerunner/api"
	"forerunner/tally"
)

const most = math.MaxUint64

// names are the counts' names, by their numbers.
var names = [10]string{"Demand", "Hits", "Merged", "Missed", "Refused", "Issued", "Used", "Wasted", "Dropped", "Lost"}

// demands are the numbers of what demands come out as, and goneAhead of what becomes of what was ahead and isn't any more.
var (
	demands   = []int{1, 2, 3, 4}
	goneAhead = []int{6, 7, 8, 9}
)

// edges lie at both ends of the counts, and where sums of them turn over.
var edges = []uint64{0, 1, 2, 5, 1<<32 - 1, 1 << 32, most/5 + 1, most / 4, most/4 + 1, most / 2, 1 << 63, most - 2, most - 1, most}

// of is the tally that has these counts, by their numbers.
func of(counts [10]uint64) api.Tally {
	return api.Tally{
		Demand: counts[0], Hits: counts[1], Merged: counts[2], Missed: counts[3], Refused: counts[4],
		Issued: counts[5], Used: counts[6], Wasted: counts[7], Dropped: counts[8], Lost: counts[9],
	}
}

// only is the tally that has one count, and 0 in each other one.
func only(which int, n uint64) api.Tally {
	var counts [10]uint64
	counts[which] = n
	return of(counts)
}

// sum is the sum of some counts, held, by numbers without an end.
func sum(counts ...uint64) uint64 {
	all := new(big.Int)
	for _, n := range counts {
		all.Add(all, new(big.Int).SetUint64(n))
	}
	if !all.IsUint64() {
		return most
	}
	return all.Uint64()
}

func add(t *testing.T, x api.Tally, which int, n uint64) api.Tally {
	t.Helper()
	y, code := tally.Add(x, which, n)
	if code != api.OK {
		t.Errorf("Add(%v, %d, %d): %d", x, which, n, code)
	}
	return y
}

func sound(t *testing.T, x api.Tally, resident, flight uint64, demand, ahead bool) {
	t.Helper()
	if d, a := tally.Sound(x, resident, flight); d != demand || a != ahead {
		t.Errorf("Sound(%v, %d, %d): %v %v, not %v %v", x, resident, flight, d, a, demand, ahead)
	}
}

// numbers are counts from anywhere, the same ones in each run, cut to all lengths, so that their sums lie on both sides of the end.
type numbers uint64

func (s *numbers) next() uint64 {
	*s = *s*6364136223846793005 + 1442695040888963407
	v := *s ^ *s>>29
	*s = *s*6364136223846793005 + 1442695040888963407
	return uint64(v) >> (*s >> 58)
}

func (s *numbers) counts() (counts [10]uint64) {
	for i := range counts {
		counts[i] = s.next()
	}
	return counts
}

// P18.1: a count is more, held; a tally's counts, by their numbers.

func TestCountsByTheirNumbers(t *testing.T) {
	if got := tally.Counts(api.Tally{}); got != ([10]uint64{}) {
		t.Errorf("Counts of nothing: %v", got)
	}
	x := api.Tally{Demand: 11, Hits: 22, Merged: 33, Missed: 44, Refused: 55, Issued: 66, Used: 77, Wasted: 88, Dropped: 99, Lost: most}
	if got, want := tally.Counts(x), ([10]uint64{11, 22, 33, 44, 55, 66, 77, 88, 99, most}); got != want {
		t.Errorf("Counts: %v, not %v", got, want)
	}
	for which, name := range names {
		var want [10]uint64
		want[which] = 7
		if got := tally.Counts(only(which, 7)); got != want {
			t.Errorf("Counts of %s alone: %v", name, got)
		}
	}
}

func TestAddByHand(t *testing.T) {
	for which, name := range names {
		for _, c := range []struct{ had, n, want uint64 }{
			{0, 0, 0},
			{0, 1, 1},
			{3, 4, 7},
			{most - 1, 0, most - 1},
			{most - 1, 1, most},
			{most, 0, most},
			{most, 1, most},
			{2, most, most},
			{most, most, most},
			{1 << 63, 1 << 63, most},
			{1<<32 - 1, 1, 1 << 32},
		} {
			if got, want := add(t, only(which, c.had), which, c.n), only(which, c.want); got != want {
				t.Errorf("%s: %d, and %d more: %v", name, c.had, c.n, got)
			}
		}
	}
}

func TestAddLeavesTheOthers(t *testing.T) {
	had := [10]uint64{10, 20, 30, 40, 50, 60, 70, 80, 90, 100}
	for which, name := range names {
		for _, n := range []uint64{0, 5, most} {
			want := had
			want[which] = sum(had[which], n)
			if got := tally.Counts(add(t, of(had), which, n)); got != want {
				t.Errorf("%s, %d more: %v, not %v", name, n, got, want)
			}
		}
	}
}

func TestAddOfNoSuchCount(t *testing.T) {
	for _, x := range []api.Tally{{}, {Demand: 3, Hits: 2, Missed: 1, Lost: most}} {
		for _, which := range []int{math.MinInt, math.MinInt + 5, -1 << 32, -11, -10, -2, -1, 10, 11, 16, 256, 1 << 32, 1<<32 + 1, 1 << 40, math.MaxInt} {
			for _, n := range []uint64{0, 1, most} {
				if got, code := tally.Add(x, which, n); got != x || code != api.Arg {
					t.Errorf("Add(%v, %d, %d): %v %d", x, which, n, got, code)
				}
			}
		}
	}
}

func TestAddIsForgotten(t *testing.T) {
	x := api.Tally{Demand: 3}
	first, second := add(t, x, 0, 4), add(t, x, 0, 4)
	if first != second || first.Demand != 7 || x.Demand != 3 {
		t.Errorf("twice the same: %v, %v, of %v", first, second, x)
	}
}

// P18.2: each count the sum, held; whether one is the greatest.

func TestSumByHand(t *testing.T) {
	a := api.Tally{Demand: 1, Hits: 2, Merged: 3, Missed: 4, Refused: 5, Issued: 6, Used: 7, Wasted: 8, Dropped: 9, Lost: 10}
	b := api.Tally{Demand: 100, Hits: most, Merged: 300, Missed: most - 4, Refused: 500, Issued: most - 5, Used: 700, Wasted: 1 << 63, Dropped: 0, Lost: 1000}
	want := api.Tally{Demand: 101, Hits: most, Merged: 303, Missed: most, Refused: 505, Issued: most, Used: 707, Wasted: 1<<63 + 8, Dropped: 9, Lost: 1010}
	if got := tally.Sum(a, b); got != want {
		t.Errorf("Sum(a, b): %v", got)
	}
	if got := tally.Sum(b, a); got != want {
		t.Errorf("Sum(b, a): %v", got)
	}
	if got := tally.Sum(a, api.Tally{}); got != a {
		t.Errorf("Sum(a, nothing): %v", got)
	}
	if got := tally.Sum(api.Tally{}, b); got != b {
		t.Errorf("Sum(nothing, b): %v", got)
	}
}

func TestSumAtEdges(t *testing.T) {
	for which, name := range names {
		for _, a := range edges {
			for _, b := range edges {
				if got, want := tally.Sum(only(which, a), only(which, b)), only(which, sum(a, b)); got != want {
					t.Errorf("%s: %d and %d: %v", name, a, b, got)
				}
			}
		}
	}
}

func TestHeldByAnyCount(t *testing.T) {
	almost := [10]uint64{}
	for i := range almost {
		almost[i] = most - 1
	}
	for _, counts := range [][10]uint64{{}, {10, 20, 30, 40, 50, 60, 70, 80, 90, 100}, almost} {
		if tally.Held(of(counts)) {
			t.Errorf("Held(%v)", counts)
		}
		for which, name := range names {
			one := counts
			one[which] = most
			if !tally.Held(of(one)) {
				t.Errorf("%s is the greatest: Held(%v) is false", name, one)
			}
		}
	}
	if !tally.Held(of([10]uint64{most, most, most, most, most, most, most, most, most, most})) {
		t.Error("all are the greatest: Held is false")
	}
}

// P18.3: whether demands add up, and what was ahead.

func TestSoundByHand(t *testing.T) {
	sound(t, api.Tally{}, 0, 0, true, true)
	sound(t, api.Tally{}, 1, 0, true, false)
	sound(t, api.Tally{}, 0, 1, true, false)
	sound(t, api.Tally{Demand: 3, Hits: 2, Missed: 1}, 0, 0, true, true)
	sound(t, api.Tally{Demand: 4, Hits: 2, Missed: 1}, 0, 0, false, true)
	sound(t, api.Tally{Demand: 2, Hits: 2, Missed: 1}, 0, 0, false, true)
	sound(t, api.Tally{Demand: 10, Hits: 1, Merged: 2, Missed: 3, Refused: 4}, 0, 0, true, true)
	sound(t, api.Tally{Issued: 21, Used: 1, Wasted: 2, Dropped: 3, Lost: 4}, 5, 6, true, true)
	sound(t, api.Tally{Issued: 21, Used: 1, Wasted: 2, Dropped: 3, Lost: 4}, 6, 5, true, true)
	sound(t, api.Tally{Issued: 21, Used: 1, Wasted: 2, Dropped: 3, Lost: 4}, 5, 5, true, false)
	sound(t, api.Tally{Issued: 21, Used: 1, Wasted: 2, Dropped: 3, Lost: 4}, 6, 6, true, false)
	sound(t, api.Tally{Issued: 11}, 5, 6, true, true)
	sound(t, api.Tally{Demand: 1, Issued: 1}, 0, 0, false, false)
	// What is of the one doesn't make up for what is missed in the other.
	sound(t, api.Tally{Demand: 5, Used: 5}, 0, 0, false, false)
	sound(t, api.Tally{Issued: 5, Hits: 5}, 0, 0, false, false)
	sound(t, api.Tally{Demand: 5}, 5, 0, false, false)
}

func TestEachPartIsCounted(t *testing.T) {
	good := [10]uint64{100, 10, 20, 30, 40, 2100, 100, 200, 300, 400}
	const resident, flight = 500, 600
	sound(t, of(good), resident, flight, true, true)
	for which := range names {
		for _, by := range []uint64{1, most} {
			// Added, most is one less, with the sum wrapped round.
			off := good
			off[which] += by
			sound(t, of(off), resident, flight, which >= 5, which < 5)
		}
	}
	sound(t, of(good), resident+1, flight, true, false)
	sound(t, of(good), resident-1, flight, true, false)
	sound(t, of(good), resident, flight+1, true, false)
	sound(t, of(good), resident, flight-1, true, false)
}

func TestSoundOfWhatIsHeld(t *testing.T) {
	sound(t, api.Tally{Demand: most, Hits: most - 1, Missed: 1}, 0, 0, true, true)
	sound(t, api.Tally{Demand: most, Hits: most - 1, Missed: 5}, 0, 0, true, true)
	sound(t, api.Tally{Demand: most, Hits: most, Merged: most, Missed: most, Refused: most}, 0, 0, true, true)
	sound(t, api.Tally{Demand: most, Hits: most - 1}, 0, 0, false, true)
	// What would be beyond the end doesn't begin at 0 again.
	sound(t, api.Tally{Demand: 4, Hits: most, Missed: 5}, 0, 0, false, true)
	sound(t, api.Tally{Demand: most - 1, Hits: most, Refused: most}, 0, 0, false, true)
	sound(t, api.Tally{Issued: most, Used: most - 1, Lost: 1}, 0, 0, true, true)
	sound(t, api.Tally{Issued: most, Used: most, Wasted: most, Dropped: most, Lost: most}, most, most, true, true)
	sound(t, api.Tally{Issued: most, Used: most - 3}, 1, 1, true, false)
	sound(t, api.Tally{Issued: most, Used: most - 3}, 1, 2, true, true)
	sound(t, api.Tally{Issued: most, Used: most - 3}, most, 2, true, true)
	sound(t, api.Tally{Issued: most}, most, most, true, true)
	sound(t, api.Tally{Issued: 4, Used: 5}, most, 0, true, false)
	sound(t, api.Tally{Issued: 4, Used: 5}, 0, most, true, false)
	sound(t, api.Tally{Issued: most - 1}, most, most, true, false)
}

// P18.1 to P18.3: any counts, the same ones in each run.

func TestAnyCounts(t *testing.T) {
	s := numbers(1)
	for range 5000 {
		a, b, n := s.counts(), s.counts(), s.next()
		which := int(n % 10)
		var both [10]uint64
		held := false
		for i := range both {
			both[i] = sum(a[i], b[i])
			held = held || both[i] == most
		}
		if got := tally.Counts(of(a)); got != a {
			t.Fatalf("Counts(%v): %v", a, got)
		}
		if got := tally.Sum(of(a), of(b)); got != of(both) || tally.Held(got) != held {
			t.Fatalf("Sum(%v, %v): %v, held %v", a, b, got, tally.Held(got))
		}
		more := a
		more[which] = sum(a[which], n)
		if got := add(t, of(a), which, n); got != of(more) {
			t.Fatalf("Add(%v, %d, %d): %v", a, which, n, got)
		}
		resident, flight := s.next(), s.next()
		demand, ahead := sum(a[1], a[2], a[3], a[4]), sum(a[6], a[7], a[8], a[9], resident, flight)
		sound(t, of(a), resident, flight, a[0] == demand, a[5] == ahead)
		a[0], a[5] = demand, ahead
		sound(t, of(a), resident, flight, true, true)
	}
}

// P18.4: what follows.

func TestAsMuchMoreAddsUpAsBefore(t *testing.T) {
	s := numbers(2)
	for range 2000 {
		counts := s.counts()
		for i := range counts {
			// Cut, so that nothing comes to be held.
			counts[i] >>= 8
		}
		n, resident, flight := s.next()>>8, s.next()>>8, s.next()>>8
		for _, fits := range []bool{false, true} {
			if fits {
				counts[0] = sum(counts[1], counts[2], counts[3], counts[4])
				counts[5] = sum(counts[6], counts[7], counts[8], counts[9], resident, flight)
			}
			x := of(counts)
			demand, ahead := tally.Sound(x, resident, flight)
			for _, which := range demands {
				y := add(t, add(t, x, 0, n), which, n)
				sound(t, y, resident, flight, demand, ahead)
			}
			for _, which := range goneAhead {
				y := add(t, add(t, x, 5, n), which, n)
				sound(t, y, resident, flight, demand, ahead)
			}
			y := add(t, x, 5, n)
			sound(t, y, resident+n, flight, demand, ahead)
			sound(t, y, resident, flight+n, demand, ahead)
			// One more demanded that came out as nothing doesn't add up, where it did.
			sound(t, add(t, x, 0, n+1), resident, flight, counts[0]+n+1 == sum(counts[1], counts[2], counts[3], counts[4]), ahead)
		}
	}
}

func TestSumsOfWhatAddsUpAddUp(t *testing.T) {
	s := numbers(3)
	for range 2000 {
		var fits [2]api.Tally
		var resident, flight [2]uint64
		for i := range fits {
			counts := s.counts()
			resident[i], flight[i] = s.next(), s.next()
			counts[0] = sum(counts[1], counts[2], counts[3], counts[4])
			counts[5] = sum(counts[6], counts[7], counts[8], counts[9], resident[i], flight[i])
			fits[i] = of(counts)
		}
		sound(t, tally.Sum(fits[0], fits[1]), sum(resident[:]...), sum(flight[:]...), true, true)
	}
}

func TestCountsNeverGetLess(t *testing.T) {
	notLess := func(was, is api.Tally) {
		t.Helper()
		before, behind := tally.Counts(was), tally.Counts(is)
		for i, name := range names {
			if behind[i] < before[i] {
				t.Errorf("%s: %d, then %d", name, before[i], behind[i])
			}
		}
		if tally.Held(was) && !tally.Held(is) {
			t.Errorf("%v is held, %v isn't", was, is)
		}
	}
	for which := range names {
		for _, had := range edges {
			for _, n := range edges {
				was := only(which, had)
				notLess(was, add(t, was, which, n))
				notLess(was, tally.Sum(was, only(which, n)))
				notLess(was, tally.Sum(only(which, n), was))
			}
		}
	}
	s := numbers(4)
	x := api.Tally{}
	for range 2000 {
		n := s.next()
		y := add(t, x, int(n%10), n>>4)
		notLess(x, y)
		x = y
	}
}
