package amp_test

import (
	"math"
	"slices"
	"testing"

	"forerunner/amp"
	"forerunner/api"
)

const (
	low  = math.MinInt
	high = math.MaxInt
)

// greats are numbers that are no bound's neighbours, but may come to one by a sum, a difference, or by their lowest bits.
var greats = []int{low, low + 1, -1 << 32, -1<<32 + 1, 1 << 32, 1<<32 + 1, high - 1, high}

// flow is a pace, by its four numbers.
func flow(next, ahead, p, g int) api.Flow { return api.Flow{Next: next, Ahead: ahead, P: p, G: g} }

func mayIs(t *testing.T, f api.Flow, degree, blocks int, want bool) {
	t.Helper()
	if got := amp.May(f, degree, blocks); got != want {
		t.Errorf("May(%v, %d, %d): %v", f, degree, blocks, got)
	}
}

// read reads, and is the pace behind that.
func read(t *testing.T, f api.Flow, count, degree, blocks int, want api.Flow, first, asked int) api.Flow {
	t.Helper()
	to, ahead, code := amp.Read(f, count, degree, blocks)
	if to != want || ahead != (api.Run{First: first, Count: asked}) || code != api.OK {
		t.Errorf("Read(%v, %d, %d, %d): %v %v %d, not %v {%d %d}", f, count, degree, blocks, to, ahead, code, want, first, asked)
	}
	return to
}

func refused(t *testing.T, f api.Flow, count, degree, blocks int, want api.Code) {
	t.Helper()
	to, ahead, code := amp.Read(f, count, degree, blocks)
	if to != (api.Flow{}) || ahead != (api.Run{}) || code != want {
		t.Errorf("Read(%v, %d, %d, %d): %v %v %d, not %d alone", f, count, degree, blocks, to, ahead, code, want)
	}
}

func lateIs(t *testing.T, f, want api.Flow) {
	t.Helper()
	if got := amp.Late(f); got != want {
		t.Errorf("Late(%v): %v, not %v", f, got, want)
	}
}

func wasteIs(t *testing.T, f, want api.Flow) {
	t.Helper()
	if got := amp.Waste(f); got != want {
		t.Errorf("Waste(%v): %v, not %v", f, got, want)
	}
}

func triggerIs(t *testing.T, f api.Flow, want int) {
	t.Helper()
	if got := amp.Trigger(f); got != want {
		t.Errorf("Trigger(%v): %d, not %d", f, got, want)
	}
}

// plainMay is what the chapter's words say of a pace that may be, one by one.
func plainMay(f api.Flow, degree, blocks int) bool {
	switch {
	case degree < 1, degree > 16, blocks < 1, blocks > 256:
		return false
	case f.Next < 0, f.Next > f.Ahead, f.Ahead > blocks:
		return false
	case f.P < 1, f.P > degree, f.G < 0, f.G > f.P-1:
		return false
	}
	return true
}

// plainRead is what the chapter's words say of reading, sentence by sentence.
func plainRead(f api.Flow, count, degree, blocks int) (api.Flow, api.Run, api.Code) {
	if !plainMay(f, degree, blocks) || count < 1 || count > 8 {
		return api.Flow{}, api.Run{}, api.Arg
	}
	if f.Next+count > blocks {
		return api.Flow{}, api.Run{}, api.Range
	}
	to := f
	to.Next = f.Next + count
	if f.Ahead > f.Next && !(f.Ahead > to.Next) {
		to.P = f.P + 1
		if to.P > degree {
			to.P = degree
		}
	}
	if to.Ahead < to.Next {
		to.Ahead = to.Next
	}
	var run api.Run
	if to.Ahead-to.Next <= to.G {
		for run.Count < to.P && to.Ahead < blocks {
			if run.Count == 0 {
				run.First = to.Ahead
			}
			run.Count++
			to.Ahead++
		}
	}
	return to, run, api.OK
}

// eachPace goes through all paces that may be, of a degree and a disk.
func eachPace(degree, blocks int, do func(f api.Flow)) {
	for ahead := 0; ahead <= blocks; ahead++ {
		for next := 0; next <= ahead; next++ {
			for p := 1; p <= degree; p++ {
				for g := 0; g < p; g++ {
					do(flow(next, ahead, p, g))
				}
			}
		}
	}
}

// eachSmall goes through all paces that may be of some small disks, with their degrees.
func eachSmall(do func(f api.Flow, degree, blocks int)) {
	for _, blocks := range []int{1, 2, 3, 8, 9, 20} {
		for _, degree := range []int{1, 2, 3, 5, 16} {
			eachPace(degree, blocks, func(f api.Flow) { do(f, degree, blocks) })
		}
	}
}

// draws is a row of numbers that look as if they came by chance, and are the same ones each time.
type draws struct{ state uint64 }

func (d *draws) below(n int) int {
	d.state = d.state*6364136223846793005 + 1442695040888963407
	return int(d.state >> 33 % uint64(n))
}

// pace is some pace that may be.
func (d *draws) pace(degree, blocks int) api.Flow {
	ahead, p := d.below(blocks+1), 1+d.below(degree)
	return flow(d.below(ahead+1), ahead, p, d.below(p))
}

// P9.1: what may be, and where a pace starts.

func TestMayByHand(t *testing.T) {
	for _, c := range []struct {
		f              api.Flow
		degree, blocks int
		want           bool
	}{
		{flow(0, 0, 1, 0), 1, 1, true},
		{flow(0, 1, 1, 0), 1, 1, true},
		{flow(1, 1, 1, 0), 1, 1, true},
		{flow(0, 256, 16, 15), 16, 256, true},
		{flow(256, 256, 16, 15), 16, 256, true},
		{flow(3, 9, 3, 1), 4, 12, true},
		{flow(-1, 0, 1, 0), 4, 12, false},
		{flow(-1, -1, 1, 0), 4, 12, false},
		{flow(0, -1, 1, 0), 4, 12, false},
		{flow(5, 4, 1, 0), 4, 12, false},
		{flow(5, 13, 1, 0), 4, 12, false},
		{flow(13, 13, 1, 0), 4, 12, false},
		{flow(0, 12, 1, 0), 4, 12, true},
		{flow(12, 12, 1, 0), 4, 12, true},
		{flow(3, 9, 0, 0), 4, 12, false},
		{flow(3, 9, 0, -1), 4, 12, false},
		{flow(3, 9, -1, 0), 4, 12, false},
		{flow(3, 9, 4, 0), 4, 12, true},
		{flow(3, 9, 5, 0), 4, 12, false},
		{flow(3, 9, 4, 3), 4, 12, true},
		{flow(3, 9, 4, 4), 4, 12, false},
		{flow(3, 9, 4, -1), 4, 12, false},
		{flow(3, 9, 1, 1), 4, 12, false},
		{api.Flow{}, 4, 12, false},
		{amp.Start(0), 0, 1, false},
		{amp.Start(0), -1, 1, false},
		{amp.Start(0), 1, 1, true},
		{amp.Start(0), 16, 1, true},
		{amp.Start(0), 17, 1, false},
		{amp.Start(0), 1, 0, false},
		{amp.Start(0), 1, -1, false},
		{amp.Start(0), 1, 256, true},
		{amp.Start(0), 1, 257, false},
		{flow(257, 257, 1, 0), 1, 257, false},
		{flow(0, 0, 17, 0), 17, 1, false},
		{flow(0, 0, 0, 0), 0, 0, false},
	} {
		mayIs(t, c.f, c.degree, c.blocks, c.want)
	}
}

func TestMayOfAllThatIsSmall(t *testing.T) {
	for degree := -1; degree <= 4; degree++ {
		for blocks := -1; blocks <= 3; blocks++ {
			for next := -2; next <= 5; next++ {
				for ahead := -2; ahead <= 5; ahead++ {
					for p := -1; p <= 5; p++ {
						for g := -2; g <= 5; g++ {
							f := flow(next, ahead, p, g)
							mayIs(t, f, degree, blocks, plainMay(f, degree, blocks))
						}
					}
				}
			}
		}
	}
}

func TestMayAtEachDegreeAndDisk(t *testing.T) {
	for degree := -3; degree <= 40; degree++ {
		mayIs(t, amp.Start(0), degree, 12, 1 <= degree && degree <= 16)
		mayIs(t, flow(0, 0, degree, degree-1), degree, 12, 1 <= degree && degree <= 16)
		mayIs(t, flow(0, 0, degree+1, 0), degree, 12, false)
	}
	for blocks := -3; blocks <= 600; blocks++ {
		mayIs(t, amp.Start(0), 4, blocks, 1 <= blocks && blocks <= 256)
		mayIs(t, amp.Start(blocks), 4, blocks, 1 <= blocks && blocks <= 256)
		mayIs(t, amp.Start(blocks+1), 4, blocks, false)
	}
}

func TestMayOfGreatNumbers(t *testing.T) {
	for _, great := range greats {
		for _, f := range []api.Flow{
			flow(great, 9, 3, 1), flow(3, great, 3, 1), flow(3, 9, great, 1), flow(3, 9, 3, great),
			flow(great, great, 3, 1), flow(3, 9, great, great), flow(great, great, great, great),
			flow(3, 9, great, great-1), flow(great, great+1, 3, 1),
		} {
			mayIs(t, f, 4, 12, false)
		}
		mayIs(t, flow(3, 9, 3, 1), great, 12, false)
		mayIs(t, flow(3, 9, 3, 1), 4, great, false)
		mayIs(t, flow(great, great, great, great-1), great, great, false)
	}
}

func TestStart(t *testing.T) {
	for next := -3; next <= 300; next++ {
		if got := amp.Start(next); got != flow(next, next, 1, 0) {
			t.Errorf("Start(%d): %v", next, got)
		}
		mayIs(t, amp.Start(next), 1, 256, 0 <= next && next <= 256)
	}
	for _, next := range greats {
		if got := amp.Start(next); got != flow(next, next, 1, 0) {
			t.Errorf("Start(%d): %v", next, got)
		}
	}
}

// P9.2: to read.

func TestTheExample(t *testing.T) {
	f := read(t, amp.Start(10), 1, 4, 256, flow(11, 12, 1, 0), 11, 1)
	read(t, f, 1, 4, 256, flow(12, 14, 2, 0), 12, 2)
}

func TestReadByHand(t *testing.T) {
	for _, c := range []struct {
		f                     api.Flow
		count, degree, blocks int
		to                    api.Flow
		first, asked          int
	}{
		// Not all that was asked for is read.
		{flow(3, 9, 3, 0), 1, 4, 20, flow(4, 9, 3, 0), 0, 0},
		{flow(3, 9, 3, 0), 5, 4, 20, flow(8, 9, 3, 0), 0, 0},
		{flow(3, 9, 3, 1), 4, 4, 20, flow(7, 9, 3, 1), 0, 0},
		{flow(3, 9, 3, 1), 5, 4, 20, flow(8, 12, 3, 1), 9, 3},
		{flow(3, 9, 3, 2), 3, 4, 20, flow(6, 9, 3, 2), 0, 0},
		{flow(3, 9, 3, 2), 4, 4, 20, flow(7, 12, 3, 2), 9, 3},
		// All of it is.
		{flow(3, 9, 3, 0), 6, 4, 20, flow(9, 13, 4, 0), 9, 4},
		{flow(3, 9, 3, 2), 6, 4, 20, flow(9, 13, 4, 2), 9, 4},
		{flow(3, 9, 3, 0), 8, 4, 20, flow(11, 15, 4, 0), 11, 4},
		// The degree is the most.
		{flow(3, 9, 4, 0), 6, 4, 20, flow(9, 13, 4, 0), 9, 4},
		{flow(3, 9, 4, 3), 8, 4, 20, flow(11, 15, 4, 3), 11, 4},
		{flow(3, 9, 15, 0), 6, 16, 40, flow(9, 25, 16, 0), 9, 16},
		{flow(3, 9, 16, 0), 6, 16, 40, flow(9, 25, 16, 0), 9, 16},
		// Nothing was asked for.
		{flow(9, 9, 3, 1), 1, 4, 20, flow(10, 13, 3, 1), 10, 3},
		{flow(9, 9, 1, 0), 8, 4, 20, flow(17, 18, 1, 0), 17, 1},
		// The disk hasn't that many any more.
		{flow(3, 9, 3, 1), 5, 4, 11, flow(8, 11, 3, 1), 9, 2},
		{flow(3, 9, 3, 1), 5, 4, 10, flow(8, 10, 3, 1), 9, 1},
		{flow(3, 9, 3, 1), 5, 4, 9, flow(8, 9, 3, 1), 0, 0},
		{flow(3, 9, 3, 1), 6, 4, 9, flow(9, 9, 4, 1), 0, 0},
		{flow(8, 9, 3, 0), 8, 4, 16, flow(16, 16, 4, 0), 0, 0},
		{flow(0, 0, 1, 0), 1, 1, 1, flow(1, 1, 1, 0), 0, 0},
		{flow(0, 0, 1, 0), 1, 1, 2, flow(1, 2, 1, 0), 1, 1},
		{flow(248, 256, 16, 15), 8, 16, 256, flow(256, 256, 16, 15), 0, 0},
		{flow(247, 250, 16, 15), 8, 16, 256, flow(255, 256, 16, 15), 255, 1},
	} {
		read(t, c.f, c.count, c.degree, c.blocks, c.to, c.first, c.asked)
	}
}

func TestReadAtTheEndOfItsBlocks(t *testing.T) {
	for _, blocks := range []int{1, 7, 8, 9, 255, 256} {
		for next := max(0, blocks-10); next <= blocks; next++ {
			for count := 1; count <= 8; count++ {
				_, _, code := amp.Read(amp.Start(next), count, 4, blocks)
				if (code == api.OK) != (next+count <= blocks) {
					t.Errorf("Read of %d blocks from %d on of %d: %d", count, next, blocks, code)
				}
				if code != api.OK {
					refused(t, amp.Start(next), count, 4, blocks, api.Range)
				}
			}
		}
	}
}

func TestReadOfCountsThatMayNotBe(t *testing.T) {
	for _, count := range append([]int{-8, -2, -1, 0, 9, 10, 16, 255, 256, 257}, greats...) {
		refused(t, amp.Start(0), count, 4, 256, api.Arg)
		refused(t, flow(3, 9, 3, 1), count, 4, 12, api.Arg)
		refused(t, flow(12, 12, 3, 1), count, 4, 12, api.Arg) // Range comes behind that
	}
}

func TestReadOfPacesThatMayNotBe(t *testing.T) {
	for _, f := range []api.Flow{
		{}, flow(-1, 9, 3, 1), flow(-1, -1, 3, 1), flow(10, 9, 3, 1), flow(3, 13, 3, 1), flow(13, 13, 3, 1),
		flow(3, 9, 0, 0), flow(3, 9, 0, -1), flow(3, 9, 5, 1), flow(3, 9, 3, -1), flow(3, 9, 3, 3), flow(12, 12, 5, 0),
	} {
		for _, count := range []int{1, 8, 0, 9} {
			refused(t, f, count, 4, 12, api.Arg)
		}
	}
	for _, great := range greats {
		for _, f := range []api.Flow{
			flow(great, 9, 3, 1), flow(3, great, 3, 1), flow(3, 9, great, 1), flow(3, 9, 3, great),
			flow(great, great, 3, 1), flow(3, 9, great, great-1), flow(great, great, great, great),
		} {
			refused(t, f, 1, 4, 12, api.Arg)
			refused(t, f, great, great, great, api.Arg)
		}
	}
}

func TestReadOfDegreesAndDisksThatMayNotBe(t *testing.T) {
	for _, none := range append([]int{-1, 0, 257, 1000}, greats...) {
		refused(t, amp.Start(0), 1, none, 12, api.Arg)
		refused(t, amp.Start(0), 1, 4, none, api.Arg)
		refused(t, amp.Start(0), 8, none, none, api.Arg)
	}
	refused(t, amp.Start(0), 1, 17, 12, api.Arg)
	for degree := 1; degree <= 16; degree++ {
		read(t, amp.Start(0), 1, degree, 12, flow(1, 2, 1, 0), 1, 1)
	}
}

func readsAsPlain(t *testing.T, f api.Flow, count, degree, blocks int) {
	t.Helper()
	to, ahead, code := amp.Read(f, count, degree, blocks)
	wantTo, wantAhead, want := plainRead(f, count, degree, blocks)
	if to != wantTo || ahead != wantAhead || code != want {
		t.Fatalf("Read(%v, %d, %d, %d): %v %v %d, not %v %v %d", f, count, degree, blocks, to, ahead, code, wantTo, wantAhead, want)
	}
}

func TestReadOfAllThatIsSmall(t *testing.T) {
	eachSmall(func(f api.Flow, degree, blocks int) {
		for count := 0; count <= 9; count++ {
			readsAsPlain(t, f, count, degree, blocks)
		}
	})
}

func TestReadOfSomeOfAll(t *testing.T) {
	d := &draws{state: 9}
	for range 200000 {
		degree, blocks := 1+d.below(16), 1+d.below(256)
		readsAsPlain(t, d.pace(degree, blocks), 1+d.below(8), degree, blocks)
	}
}

func TestReadOfWhateverNumbers(t *testing.T) {
	d := &draws{state: 99}
	for range 200000 {
		f := flow(d.below(14)-1, d.below(16)-1, d.below(7)-1, d.below(6)-1)
		readsAsPlain(t, f, d.below(11)-1, d.below(19)-1, d.below(14)-1)
	}
}

// P9.3: what was asked for comes too late, or in vain; and what makes a stream ask.

func TestLate(t *testing.T) {
	for _, c := range []struct{ f, want api.Flow }{
		{flow(3, 9, 3, 0), flow(3, 9, 3, 1)},
		{flow(3, 9, 3, 1), flow(3, 9, 3, 2)},
		{flow(3, 9, 3, 2), flow(3, 9, 3, 2)},
		{flow(3, 9, 1, 0), flow(3, 9, 1, 0)},
		{flow(3, 9, 2, 0), flow(3, 9, 2, 1)},
		{flow(3, 9, 16, 14), flow(3, 9, 16, 15)},
		{flow(3, 9, 16, 15), flow(3, 9, 16, 15)},
	} {
		lateIs(t, c.f, c.want)
	}
}

func TestWaste(t *testing.T) {
	for _, c := range []struct{ f, want api.Flow }{
		{flow(3, 9, 3, 0), flow(3, 9, 2, 0)},
		{flow(3, 9, 3, 1), flow(3, 9, 2, 0)},
		{flow(3, 9, 3, 2), flow(3, 9, 2, 1)},
		{flow(3, 9, 2, 0), flow(3, 9, 1, 0)},
		{flow(3, 9, 2, 1), flow(3, 9, 1, 0)},
		{flow(3, 9, 1, 0), flow(3, 9, 1, 0)},
		{flow(3, 9, 16, 15), flow(3, 9, 15, 14)},
		{flow(3, 9, 16, 0), flow(3, 9, 15, 0)},
	} {
		wasteIs(t, c.f, c.want)
	}
}

func TestLateAndWasteOfAllThatMayBe(t *testing.T) {
	for p := 1; p <= 40; p++ { // no degree bounds what they are handed
		for g := 0; g < p; g++ {
			late, wasteP, wasteG := g+1, p-1, g-1
			if late == p {
				late = g
			}
			if wasteP == 0 {
				wasteP = 1
			}
			if wasteG == -1 {
				wasteG = 0
			}
			lateIs(t, flow(3, 9, p, g), flow(3, 9, p, late))
			wasteIs(t, flow(3, 9, p, g), flow(3, 9, wasteP, wasteG))
		}
	}
}

func TestLateAndWasteDoNotMindWhereTheStreamIs(t *testing.T) {
	places := append([]int{-5, -1, 0, 1, 9, 256, 257}, greats...)
	for _, next := range places {
		for _, ahead := range places {
			lateIs(t, flow(next, ahead, 5, 2), flow(next, ahead, 5, 3))
			lateIs(t, flow(next, ahead, 5, 5), flow(next, ahead, 5, 5))
			wasteIs(t, flow(next, ahead, 5, 2), flow(next, ahead, 4, 1))
			wasteIs(t, flow(next, ahead, 5, -1), flow(next, ahead, 5, -1))
		}
	}
}

func TestLateAndWasteLeaveWhatIsNoPace(t *testing.T) {
	for p := -4; p <= 20; p++ {
		for g := -4; g <= 24; g++ {
			if p < 1 || g < 0 || g > p-1 {
				f := flow(3, 9, p, g)
				lateIs(t, f, f)
				wasteIs(t, f, f)
			}
		}
	}
	for _, f := range []api.Flow{
		flow(3, 9, low, 0), flow(3, 9, low, high), flow(3, 9, low, low), flow(3, 9, low+1, low), flow(3, 9, 0, low),
		flow(3, 9, 3, high), flow(3, 9, 3, low), flow(3, 9, high, high), flow(3, 9, high, low), flow(3, 9, high, -1), {},
	} {
		lateIs(t, f, f)
		wasteIs(t, f, f)
	}
}

func TestLateAndWasteOfGreatNumbers(t *testing.T) {
	lateIs(t, flow(3, 9, high, high-1), flow(3, 9, high, high-1))
	lateIs(t, flow(3, 9, high, high-2), flow(3, 9, high, high-1))
	lateIs(t, flow(3, 9, high, 0), flow(3, 9, high, 1))
	wasteIs(t, flow(3, 9, high, high-1), flow(3, 9, high-1, high-2))
	wasteIs(t, flow(3, 9, high, 0), flow(3, 9, high-1, 0))
	wasteIs(t, flow(3, 9, 1<<32, 1<<31), flow(3, 9, 1<<32-1, 1<<31-1))
}

func TestTrigger(t *testing.T) {
	for _, c := range []struct {
		f    api.Flow
		want int
	}{
		{flow(3, 9, 3, 0), 8},
		{flow(3, 9, 3, 1), 7},
		{flow(3, 9, 3, 2), 6},
		{flow(0, 256, 16, 15), 240},
		{flow(0, 0, 1, 0), -1}, // of a stream that hasn't read, nor asked, at the disk's beginning
		{flow(0, 2, 5, 4), -3},
		{flow(1, 1, 1, 0), 0},
		{flow(0, -1, 3, 0), 0},
		{flow(0, -5, 3, 2), 0},
		{flow(0, 9, 3, -1), 0},
		{flow(0, -1, 3, -1), 0},
		{flow(-7, 9, 0, 2), 6}, // neither Next nor P matters
		{flow(high, 9, low, 2), 6},
		{flow(0, 9, 1, 20), -12},
		{flow(0, high, 1, 0), high - 1},
		{flow(0, high, 1, high), -1},
		{flow(0, 0, 1, high), low},
		{flow(0, low, 1, 0), 0},
		{flow(0, 9, 1, low), 0},
		{flow(0, low, 1, low), 0},
		{flow(0, low, 1, high), 0},
		{flow(0, high, 1, low), 0},
	} {
		triggerIs(t, c.f, c.want)
	}
}

func TestTriggerOfAllThatIsSmall(t *testing.T) {
	for ahead := -3; ahead <= 20; ahead++ {
		for g := -3; g <= 20; g++ {
			want := ahead - 1 - g
			if ahead < 0 || g < 0 {
				want = 0
			}
			triggerIs(t, flow(1, ahead, 4, g), want)
		}
	}
}

// P9.4: what follows.

// mayStill asks whether a pace that may be may be behind each call that gives one.
func mayStill(t *testing.T, f api.Flow, degree, blocks int) {
	t.Helper()
	mayIs(t, f, degree, blocks, true)
	mayIs(t, amp.Late(f), degree, blocks, true)
	mayIs(t, amp.Waste(f), degree, blocks, true)
	for count := 1; count <= min(8, blocks-f.Next); count++ {
		to, _, code := amp.Read(f, count, degree, blocks)
		if code != api.OK {
			t.Errorf("Read(%v, %d, %d, %d): %d", f, count, degree, blocks, code)
		}
		mayIs(t, to, degree, blocks, true)
	}
}

// asksByTheTrigger asks whether a read asks just if it should, and from where on.
func asksByTheTrigger(t *testing.T, f api.Flow, count, degree, blocks int) {
	t.Helper()
	to, ahead, code := amp.Read(f, count, degree, blocks)
	if code != api.OK {
		t.Fatalf("Read(%v, %d, %d, %d): %d", f, count, degree, blocks, code)
	}
	last, from := f.Next+count-1, max(f.Ahead, f.Next+count)
	asks := last >= amp.Trigger(f) && from < blocks
	if asks != (ahead.Count > 0) {
		t.Fatalf("Read(%v, %d, %d, %d): %v, while the trigger is %d", f, count, degree, blocks, ahead, amp.Trigger(f))
	}
	if asks && (ahead.First != from || ahead.First < to.Next || ahead.First+ahead.Count != to.Ahead || ahead.Count > to.P) {
		t.Fatalf("Read(%v, %d, %d, %d): %v and %v", f, count, degree, blocks, to, ahead)
	}
	if !asks && (ahead != (api.Run{}) || to.Ahead != from) {
		t.Fatalf("Read(%v, %d, %d, %d): %v and %v", f, count, degree, blocks, to, ahead)
	}
}

func TestWhatMayBeMayBeBehindEachCall(t *testing.T) {
	eachSmall(func(f api.Flow, degree, blocks int) { mayStill(t, f, degree, blocks) })
}

func TestAReadAsksByTheTrigger(t *testing.T) {
	eachSmall(func(f api.Flow, degree, blocks int) {
		for count := 1; count <= min(8, blocks-f.Next); count++ {
			asksByTheTrigger(t, f, count, degree, blocks)
		}
	})
	d := &draws{state: 999}
	for range 100000 {
		degree, blocks := 1+d.below(16), 1+d.below(256)
		if f := d.pace(degree, blocks); f.Next < blocks {
			asksByTheTrigger(t, f, 1+d.below(min(8, blocks-f.Next)), degree, blocks)
		}
	}
}

// readThrough reads a disk from a block on, with spans as they are drawn, and some that is late, or wasted; put together, what is asked for is one behind the other.
func readThrough(t *testing.T, d *draws, from, degree, blocks int) {
	t.Helper()
	f, end := amp.Start(from), from
	for range blocks { // each read is of one block at least
		if f.Next == blocks {
			break
		}
		switch d.below(4) {
		case 0:
			f = amp.Late(f)
		case 1:
			f = amp.Waste(f)
		}
		mayIs(t, f, degree, blocks, true)
		to, ahead, code := amp.Read(f, 1+d.below(min(8, blocks-f.Next)), degree, blocks)
		if code != api.OK {
			t.Fatalf("Read(%v): %d", f, code)
		}
		if end = max(end, to.Next); ahead.Count > 0 {
			if ahead.First != end {
				t.Fatalf("Read(%v): %v and %v, while all up to %d was asked for", f, to, ahead, end)
			}
			end += ahead.Count
		}
		if to.Ahead != end {
			t.Fatalf("Read(%v): %v, while all up to %d was asked for", f, to, end)
		}
		f = to
	}
	if f.Next != blocks || f.Ahead != blocks {
		t.Fatalf("a disk of %d blocks was read, up to %v", blocks, f)
	}
}

func TestWhatIsAskedForIsOneBehindTheOther(t *testing.T) {
	d := &draws{state: 9999}
	for degree := 1; degree <= 16; degree++ {
		for range 200 {
			blocks := 1 + d.below(256)
			readThrough(t, d, d.below(blocks+1), degree, blocks)
		}
	}
}

func TestWhoReadsOnIsAheadByMoreAndMore(t *testing.T) {
	f, asked := amp.Start(0), []int{}
	for range 20 {
		to, ahead, _ := amp.Read(f, 1, 4, 256)
		if ahead.Count > 0 {
			asked = append(asked, ahead.Count)
		}
		f = to
	}
	if want := []int{1, 2, 3, 4, 4, 4, 4}; !slices.Equal(asked, want) {
		t.Errorf("by and by, %v blocks were asked for, not %v", asked, want)
	}
}

func TestTheSameComesToTheSame(t *testing.T) {
	for range 3 {
		read(t, flow(3, 9, 3, 1), 5, 4, 20, flow(8, 12, 3, 1), 9, 3)
		refused(t, flow(12, 12, 3, 1), 1, 4, 12, api.Range)
		lateIs(t, flow(3, 9, 3, 1), flow(3, 9, 3, 2))
		wasteIs(t, flow(3, 9, 3, 1), flow(3, 9, 2, 0))
	}
}
