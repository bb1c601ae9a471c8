package stream_test

import (
	"math"
	"slices"
	"testing"

	"forerunner/amp"
	"forerunner/api"
	"forerunner/stream"
	"forerunner/tap"
)

const (
	low  = math.MinInt
	high = math.MaxInt
)

// greats are numbers that are no bound's neighbours, but may come to one by a sum, a difference, or by their lowest bits.
var greats = []int{low, low + 1, -1 << 32, -1<<32 + 1, 1 << 32, 1<<32 + 1, high - 7, high - 1, high}

func made(t *testing.T, streams, size, life, degree, blocks int) *stream.Tracker {
	t.Helper()
	x, code := stream.New(streams, size, life, degree, blocks)
	if x == nil || code != api.OK {
		t.Fatalf("New(%d, %d, %d, %d, %d): %v %d", streams, size, life, degree, blocks, x, code)
	}
	return x
}

// usual is a tracker with room for what a test does, if it says nothing else.
func usual(t *testing.T) *stream.Tracker {
	t.Helper()
	return made(t, 4, 8, 16, 4, 200)
}

// access asks for what an access comes to: its stream, and what is to be fetched ahead.
func access(t *testing.T, x *stream.Tracker, first, count int, id, ahead, asked int) {
	t.Helper()
	want := api.Found{Stream: id, Ahead: api.Run{First: ahead, Count: asked}}
	if got, code := x.Access(first, count); got != want || code != api.OK {
		t.Errorf("Access(%d, %d): %v %d, not %v", first, count, got, code, want)
	}
}

// nobodys lets blocks be read, one at a time, each of which is nobody's.
func nobodys(t *testing.T, x *stream.Tracker, blocks ...int) {
	t.Helper()
	for _, block := range blocks {
		access(t, x, block, 1, 0, 0, 0)
	}
}

// of lets blocks be read, one at a time, each of which is the stream's.
func of(t *testing.T, x *stream.Tracker, id int, blocks ...int) {
	t.Helper()
	for _, block := range blocks {
		if got, code := x.Access(block, 1); got.Stream != id || code != api.OK {
			t.Errorf("Access(%d, 1): %v %d, not of %d", block, got, code, id)
		}
	}
}

func refused(t *testing.T, x *stream.Tracker, first, count int) {
	t.Helper()
	if got, code := x.Access(first, count); got != (api.Found{}) || code != api.Arg {
		t.Errorf("Access(%d, %d): %v %d, not Arg alone", first, count, got, code)
	}
}

// told is a stream, by all its numbers.
func told(id, next, ahead, p, g, used int) api.Stream {
	return api.Stream{ID: id, Flow: api.Flow{Next: next, Ahead: ahead, P: p, G: g}, Used: used}
}

func streamsAre(t *testing.T, x *stream.Tracker, want ...api.Stream) {
	t.Helper()
	if got := x.Streams(); !slices.Equal(got, want) {
		t.Errorf("Streams: %v, not %v", got, want)
	}
}

// idsAre asks for the streams' numbers alone.
func idsAre(t *testing.T, x *stream.Tracker, want ...int) {
	t.Helper()
	var got []int
	for _, s := range x.Streams() {
		got = append(got, s.ID)
	}
	if !slices.Equal(got, want) {
		t.Errorf("Streams are %v, not %v", got, want)
	}
}

// expectedIs asks for the entries, each as the block that it expects, and its age.
func expectedIs(t *testing.T, x *stream.Tracker, want ...int) {
	t.Helper()
	var got []int
	for _, e := range x.Expected() {
		got = append(got, e.Next, e.Age)
	}
	if !slices.Equal(got, want) {
		t.Errorf("Expected: %v, not %v", got, want)
	}
}

// flowOf is the pace of a stream that is there.
func flowOf(t *testing.T, x *stream.Tracker, id int) api.Flow {
	t.Helper()
	for _, s := range x.Streams() {
		if s.ID == id {
			return s.Flow
		}
	}
	t.Fatalf("no stream %d among %v", id, x.Streams())
	return api.Flow{}
}

// P10.1: a tracker is made.

func TestNew(t *testing.T) {
	for _, c := range []struct{ arg, most int }{{0, 16}, {1, 32}, {2, 64}, {3, 16}, {4, 256}} {
		for v := -3; v <= 600; v++ {
			for _, others := range []int{1, 16} {
				args := [5]int{others, others, others, others, others}
				args[c.arg] = v
				want := api.Arg
				if 1 <= v && v <= c.most {
					want = api.OK
				}
				x, code := stream.New(args[0], args[1], args[2], args[3], args[4])
				if code != want || (x == nil) != (want != api.OK) {
					t.Errorf("New(%v): %v %d, not %d", args, x, code, want)
				}
			}
		}
	}
}

func TestNewOfTheGreatest(t *testing.T) {
	made(t, 1, 1, 1, 1, 1)
	made(t, 16, 32, 64, 16, 256)
	for arg := range 5 {
		for _, less := range []bool{false, true} {
			args := [5]int{16, 32, 64, 16, 256}
			args[arg]++
			if less {
				args[arg] = 0
			}
			if x, code := stream.New(args[0], args[1], args[2], args[3], args[4]); x != nil || code != api.Arg {
				t.Errorf("New(%v): %v %d", args, x, code)
			}
		}
	}
}

func TestNewOfGreatNumbers(t *testing.T) {
	for _, great := range greats {
		for set := 1; set < 1<<5; set++ {
			args := [5]int{2, 2, 2, 2, 2}
			for arg := range args {
				if set>>arg&1 == 1 {
					args[arg] = great
				}
			}
			if x, code := stream.New(args[0], args[1], args[2], args[3], args[4]); x != nil || code != api.Arg {
				t.Errorf("New(%v): %v %d", args, x, code)
			}
		}
	}
}

func TestAtFirstThereIsNothing(t *testing.T) {
	x := usual(t)
	streamsAre(t, x)
	expectedIs(t, x)
	for block := range 200 {
		nobodys(t, usual(t), block)
	}
}

func TestTheTableHasTheSize(t *testing.T) {
	for size := 1; size <= 32; size++ {
		x := made(t, 16, size, 64, 4, 256)
		for i := range 40 {
			nobodys(t, x, 6*i)
			if got := len(x.Expected()); got != min(i+1, size) {
				t.Errorf("size %d, %d accesses: %d entries", size, i+1, got)
			}
		}
	}
}

func TestTheTableHasTheLife(t *testing.T) {
	for life := 1; life <= 64; life++ {
		for _, late := range []int{0, 1} {
			x := made(t, 16, 32, life, 4, 256)
			nobodys(t, x, 10)
			for range life - 1 + late {
				nobodys(t, x, 100) // one entry, noted again and again
			}
			of(t, x, 1-late, 11)
		}
	}
}

func TestTheDegreeIsTheMostThatIsAskedFor(t *testing.T) {
	for degree := 1; degree <= 16; degree++ {
		x := made(t, 1, 1, 1, degree, 256)
		most := 0
		for block := range 200 {
			found, code := x.Access(block, 1)
			if code != api.OK {
				t.Fatalf("Access(%d, 1): %d", block, code)
			}
			most = max(most, found.Ahead.Count)
		}
		if most != degree || x.Streams()[0].Flow.P != degree {
			t.Errorf("degree %d: %d blocks at a time, %v", degree, most, x.Streams())
		}
	}
}

func TestTrackersAreApart(t *testing.T) {
	x, other := usual(t), usual(t)
	nobodys(t, x, 10)
	nobodys(t, other, 11)
	of(t, x, 1, 11)
	of(t, other, 1, 12)
	x.Late(1)
	of(t, x, 1, 12)
	streamsAre(t, other, told(1, 13, 14, 1, 0, 2))
	expectedIs(t, other)
}

// P10.2: an access.

func TestTheExample(t *testing.T) {
	x := usual(t)
	access(t, x, 5, 1, 0, 0, 0)
	access(t, x, 6, 1, 1, 7, 1)
	access(t, x, 7, 1, 1, 8, 2)
	streamsAre(t, x, told(1, 8, 10, 2, 0, 3))
	expectedIs(t, x)
}

func TestANewStreamStartsWhereItWasExpected(t *testing.T) {
	for count := 1; count <= 8; count++ {
		for next := 1; next <= 8; next++ {
			x := usual(t)
			access(t, x, 20, count, 0, 0, 0)
			access(t, x, 20+count, next, 1, 20+count+next, 1)
			streamsAre(t, x, told(1, 20+count+next, 21+count+next, 1, 0, 2))
			expectedIs(t, x)
		}
	}
}

func TestOnlyTheNextBlockIsOnes(t *testing.T) {
	for block := 10; block <= 40; block++ {
		x := usual(t)
		nobodys(t, x, 20)
		of(t, x, 1, 21) // 22 is asked for, too
		id := 0
		if block == 22 {
			id = 1
		}
		of(t, x, id, block)
	}
}

func TestAStreamAsksAsItsPaceSays(t *testing.T) {
	x := made(t, 4, 8, 16, 3, 40)
	nobodys(t, x, 0)
	access(t, x, 1, 1, 1, 2, 1)
	access(t, x, 2, 1, 1, 3, 2)
	access(t, x, 3, 1, 1, 0, 0)
	access(t, x, 4, 1, 1, 5, 3)
	access(t, x, 5, 2, 1, 0, 0)
	access(t, x, 7, 8, 1, 15, 3)
	x.Late(1)
	x.Late(1)
	access(t, x, 15, 1, 1, 18, 3) // two are left, so that more is asked for
	x.Waste(1)
	access(t, x, 16, 4, 1, 21, 2) // one is left
	access(t, x, 20, 8, 1, 28, 3)
	access(t, x, 28, 8, 1, 36, 3)
	access(t, x, 36, 3, 1, 39, 1)
	access(t, x, 39, 1, 1, 0, 0)
	streamsAre(t, x, told(1, 40, 40, 3, 1, 13))
	expectedIs(t, x)
}

func TestAtTheDisksEnd(t *testing.T) {
	for _, blocks := range []int{1, 2, 7, 8, 9, 255, 256} {
		for count := 1; count <= 8; count++ {
			for first := max(0, blocks-20); first <= blocks; first++ {
				x := made(t, 4, 8, 16, 4, blocks)
				if first+count > blocks {
					refused(t, x, first, count)
					expectedIs(t, x)
				} else {
					access(t, x, first, count, 0, 0, 0)
					expectedIs(t, x, first+count, 0)
				}
			}
		}
	}
}

func TestAStreamThatReadAllGoesNowhere(t *testing.T) {
	x := made(t, 4, 8, 16, 4, 10)
	nobodys(t, x, 7)
	access(t, x, 8, 2, 1, 0, 0)
	streamsAre(t, x, told(1, 10, 10, 1, 0, 2))
	refused(t, x, 10, 1)
	nobodys(t, x, 0)
	of(t, x, 2, 1)
	streamsAre(t, x, told(1, 10, 10, 1, 0, 2), told(2, 2, 3, 1, 0, 4))
}

func TestADiskOfOneBlock(t *testing.T) {
	x := made(t, 1, 1, 1, 1, 1)
	for range 5 {
		nobodys(t, x, 0)
		refused(t, x, 1, 1)
		refused(t, x, 0, 2)
	}
	streamsAre(t, x)
	expectedIs(t, x, 1, 0)
}

func TestAStreamThatReadsOnKeepsTheTableAsItIs(t *testing.T) {
	x := made(t, 4, 8, 3, 4, 200)
	nobodys(t, x, 10, 50, 11-1) // 11 is expected, noted again
	of(t, x, 1, 51)
	expectedIs(t, x, 11, 1)
	of(t, x, 1, 52, 53, 54, 55, 56)
	expectedIs(t, x, 11, 1) // no look, so that it is no older
	of(t, x, 2, 11)
	expectedIs(t, x)
}

// twoAlike is a tracker with streams 1 and 2, whose Next is 30 both: of Used 4 and 6, or the other way round.
func twoAlike(t *testing.T, firstLast bool) *stream.Tracker {
	t.Helper()
	x := usual(t)
	nobodys(t, x, 20, 26)
	of(t, x, 1, 21)
	of(t, x, 2, 27)
	if firstLast {
		access(t, x, 28, 2, 2, 30, 2)
		access(t, x, 22, 8, 1, 30, 2)
	} else {
		access(t, x, 22, 8, 1, 30, 2)
		access(t, x, 28, 2, 2, 30, 2)
	}
	return x
}

func TestOfTwoTheOneThatWasUsedLast(t *testing.T) {
	x := twoAlike(t, false)
	streamsAre(t, x, told(1, 30, 32, 2, 0, 5), told(2, 30, 32, 2, 0, 6))
	of(t, x, 2, 30)
	of(t, x, 1, 30) // the other one is there still
	of(t, x, 1, 31) // both are at 31
	of(t, x, 2, 31)
	streamsAre(t, x, told(1, 32, 35, 3, 0, 9), told(2, 32, 35, 3, 0, 10))

	x = twoAlike(t, true)
	streamsAre(t, x, told(1, 30, 32, 2, 0, 6), told(2, 30, 32, 2, 0, 5))
	of(t, x, 1, 30)
	of(t, x, 2, 30)
	of(t, x, 2, 31)
	of(t, x, 1, 31)
	streamsAre(t, x, told(1, 32, 35, 3, 0, 10), told(2, 32, 35, 3, 0, 9))
}

func TestOfManyTheOneThatWasUsedLast(t *testing.T) {
	for last := range 6 {
		x := made(t, 6, 8, 64, 4, 200)
		for i := range 6 {
			nobodys(t, x, 20+4*i)
			of(t, x, i+1, 21+4*i)
		}
		for k := range 6 { // each comes to 50, that of the number last + 1 behind all others
			i := (last + 1 + k) % 6
			for next := 22 + 4*i; next < 50; {
				count := min(8, 50-next)
				if got, _ := x.Access(next, count); got.Stream != i+1 {
					t.Fatalf("Access(%d, %d): %v, not of %d", next, count, got, i+1)
				}
				next += count
			}
		}
		of(t, x, last+1, 50)
	}
}

func TestLateAndWasteAreNoUse(t *testing.T) {
	x := twoAlike(t, false)
	x.Late(1)
	x.Waste(1)
	streamsAre(t, x, told(1, 30, 32, 1, 0, 5), told(2, 30, 32, 2, 0, 6))
	of(t, x, 2, 30)

	x = made(t, 2, 8, 16, 4, 200)
	nobodys(t, x, 10)
	of(t, x, 1, 11)
	nobodys(t, x, 20)
	of(t, x, 2, 21)
	nobodys(t, x, 30)
	x.Late(1)
	x.Waste(1)
	of(t, x, 3, 31)
	idsAre(t, x, 2, 3)
}

func TestAStreamGoesAheadOfWhatIsExpected(t *testing.T) {
	x := usual(t)
	nobodys(t, x, 10)
	of(t, x, 1, 11) // its Next is 12
	access(t, x, 5, 7, 0, 0, 0)
	expectedIs(t, x, 12, 0) // and 12 is expected
	of(t, x, 1, 12)
	idsAre(t, x, 1)
	expectedIs(t, x, 12, 0)
	of(t, x, 2, 12)
	expectedIs(t, x)
	streamsAre(t, x, told(1, 13, 15, 2, 0, 4), told(2, 13, 14, 1, 0, 5))
	of(t, x, 2, 13)
	of(t, x, 1, 13)
}

func TestWhoComesLateBeginsAnew(t *testing.T) {
	x := made(t, 4, 2, 16, 4, 200)
	nobodys(t, x, 10, 50, 90) // 11 went, to make room
	expectedIs(t, x, 91, 0, 51, 1)
	nobodys(t, x, 11)
	streamsAre(t, x)
	of(t, x, 1, 12)
	streamsAre(t, x, told(1, 13, 14, 1, 0, 5))
}

func TestTheOneThatWasUsedLongestAgoGoes(t *testing.T) {
	for most := 1; most <= 16; most++ {
		for spared := range most {
			x := made(t, most, 8, 16, 4, 256)
			var ids []int
			for i := range most {
				nobodys(t, x, 10*i)
				of(t, x, i+1, 10*i+1)
				ids = append(ids, i+1)
			}
			for i := range spared { // those of the least numbers are used again
				of(t, x, i+1, 10*i+2)
			}
			nobodys(t, x, 200)
			idsAre(t, x, ids...)
			of(t, x, most+1, 201)
			idsAre(t, x, append(slices.Delete(ids, spared, spared+1), most+1)...)
			nobodys(t, x, 10*spared+2) // it is nobody's any more
		}
	}
}

func TestNeitherNumberNorPlaceSaysWhatGoes(t *testing.T) {
	x := made(t, 3, 8, 16, 4, 256)
	for i, first := range []int{100, 20, 180} {
		nobodys(t, x, first)
		of(t, x, i+1, first+1)
	}
	of(t, x, 1, 102)
	of(t, x, 2, 22)
	nobodys(t, x, 60)
	of(t, x, 4, 61)
	idsAre(t, x, 1, 2, 4)
	nobodys(t, x, 140)
	of(t, x, 5, 141)
	idsAre(t, x, 2, 4, 5)
	of(t, x, 2, 23)
	nobodys(t, x, 220)
	of(t, x, 6, 221)
	idsAre(t, x, 2, 5, 6)
	streamsAre(t, x, told(2, 24, 25, 2, 0, 13), told(5, 142, 143, 1, 0, 12), told(6, 222, 223, 1, 0, 15))
}

func TestTheOnlyStreamThatMayBeGoesForTheNextOne(t *testing.T) {
	x := made(t, 1, 8, 16, 4, 200)
	for i := range 30 {
		nobodys(t, x, 5*i)
		access(t, x, 5*i+1, 1, i+1, 5*i+2, 1)
		streamsAre(t, x, told(i+1, 5*i+2, 5*i+3, 1, 0, 2*i+2))
		expectedIs(t, x)
	}
}

func TestNoAccess(t *testing.T) {
	for _, c := range [][2]int{
		{-1, 1}, {-1, 8}, {-8, 8}, {-1 << 32, 1}, {low, 1}, {low, 8},
		{200, 1}, {199, 2}, {193, 8}, {201, 1}, {1 << 20, 1}, {1 << 32, 1}, {high - 7, 8}, {high, 1}, {high, 8},
		{0, 0}, {0, 9}, {0, -1}, {12, 0}, {12, 9}, {12, 1<<32 + 1}, {12, low}, {12, high}, {51, 0}, {51, 9}, {51, -1},
		{-1, 0}, {200, 9}, {low, low}, {high, high}, {low, high}, {high, low},
	} {
		x := usual(t)
		refused(t, x, c[0], c[1])
		streamsAre(t, x)
		expectedIs(t, x)
		nobodys(t, x, 10)
		of(t, x, 1, 11)
		nobodys(t, x, 50, 90)
		for range 5 {
			refused(t, x, c[0], c[1])
		}
		streamsAre(t, x, told(1, 12, 13, 1, 0, 2))
		expectedIs(t, x, 91, 0, 51, 1) // no look
		access(t, x, 51, 1, 2, 52, 1)
		streamsAre(t, x, told(1, 12, 13, 1, 0, 2), told(2, 52, 53, 1, 0, 5)) // no access
	}
}

func TestNoAccessOfGreatNumbers(t *testing.T) {
	x := made(t, 16, 32, 64, 16, 256)
	for _, great := range greats {
		for _, other := range append([]int{-1, 0, 1, 8, 9, 255, 256}, greats...) {
			refused(t, x, great, other)
			refused(t, x, other, great)
		}
	}
	expectedIs(t, x)
}

func TestEveryAccessCounts(t *testing.T) {
	x := usual(t)
	nobodys(t, x, 100, 120, 140, 10)
	refused(t, x, 11, 0)
	of(t, x, 1, 11)
	streamsAre(t, x, told(1, 12, 13, 1, 0, 5))
	nobodys(t, x, 160)
	of(t, x, 1, 12)
	streamsAre(t, x, told(1, 13, 15, 2, 0, 7))
}

// P10.3: late, waste, and what is told.

func TestLateAndWasteOfEachPace(t *testing.T) {
	x := made(t, 1, 1, 1, 16, 256)
	nobodys(t, x, 0)
	for block := 1; block < 256; block++ {
		of(t, x, 1, block)
		for i := range 3 {
			was, call := flowOf(t, x, 1), "Late"
			there, want := false, amp.Late(was)
			if (block+i)%4 == 0 {
				call, want = "Waste", amp.Waste(was)
				there = x.Waste(1)
			} else {
				there = x.Late(1)
			}
			if !there || flowOf(t, x, 1) != want {
				t.Errorf("block %d, %s of %v: %v %v, not %v", block, call, was, there, flowOf(t, x, 1), want)
			}
		}
	}
}

func TestLateAndWasteOfAPaceThatStays(t *testing.T) {
	x := usual(t)
	nobodys(t, x, 10)
	of(t, x, 1, 11)
	for range 3 { // P is 1: G is 0 whatever comes
		if !x.Late(1) || !x.Waste(1) {
			t.Errorf("there is a stream 1")
		}
		streamsAre(t, x, told(1, 12, 13, 1, 0, 2))
	}
}

func TestLateAndWasteAreOneStreams(t *testing.T) {
	for id := 1; id <= 3; id++ {
		for _, waste := range []bool{false, true} {
			x := usual(t)
			for i := range 3 {
				nobodys(t, x, 50*i)
				of(t, x, i+1, 50*i+1, 50*i+2)
			}
			want := x.Streams()
			call, to := x.Late, amp.Late
			if waste {
				call, to = x.Waste, amp.Waste
			}
			want[id-1].Flow = to(want[id-1].Flow)
			if !call(id) {
				t.Errorf("there is a stream %d", id)
			}
			streamsAre(t, x, want...)
		}
	}
}

func TestLateAndWasteOfNone(t *testing.T) {
	x := made(t, 2, 8, 16, 4, 200)
	for id := -2; id <= 20; id++ {
		if x.Late(id) || x.Waste(id) {
			t.Errorf("there is no stream %d, or any", id)
		}
	}
	for i := range 4 {
		nobodys(t, x, 40*i)
		of(t, x, i+1, 40*i+1, 40*i+2)
	}
	want := []api.Stream{told(3, 83, 85, 2, 0, 9), told(4, 123, 125, 2, 0, 12)}
	for _, id := range append([]int{-4, -3, -1, 0, 1, 2, 5, 6, 83, 1<<32 + 3}, greats...) {
		if x.Late(id) || x.Waste(id) {
			t.Errorf("there is no stream %d", id)
		}
		streamsAre(t, x, want...)
	}
	if !x.Late(3) || !x.Waste(4) {
		t.Errorf("there are 3 and 4")
	}
	streamsAre(t, x, told(3, 83, 85, 2, 1, 9), told(4, 123, 125, 1, 0, 12))
}

func TestLateAsksEarlier(t *testing.T) {
	x := usual(t)
	nobodys(t, x, 10)
	of(t, x, 1, 11, 12) // 13 and 14 are asked for
	x.Late(1)
	access(t, x, 13, 1, 1, 15, 2) // with 14 still to be read
	other := usual(t)
	nobodys(t, other, 10)
	of(t, other, 1, 11, 12)
	access(t, other, 13, 1, 1, 0, 0)
}

func TestWasteAsksForLess(t *testing.T) {
	x := usual(t)
	nobodys(t, x, 10)
	of(t, x, 1, 11, 12, 13)
	x.Waste(1)
	x.Waste(1)
	access(t, x, 14, 1, 1, 15, 2) // 1, and one more, as all was read
}

func TestStreamsAreToldByRisingNumbers(t *testing.T) {
	x := made(t, 3, 8, 64, 4, 256)
	for i := range 8 {
		nobodys(t, x, 240-30*i)
		of(t, x, i+1, 241-30*i)
		if i > 0 {
			of(t, x, i, 242-30*(i-1)) // the one before is used last
		}
		var want []int
		for id := max(1, i-1); id <= i+1; id++ {
			want = append(want, id)
		}
		idsAre(t, x, want...)
	}
}

func TestWhatIsToldIsMemoryOfItsOwn(t *testing.T) {
	x := usual(t)
	nobodys(t, x, 10, 50)
	of(t, x, 1, 11)
	of(t, x, 2, 51)
	nobodys(t, x, 90, 100)
	streams, entries := x.Streams(), x.Expected()
	for i := range streams[:cap(streams)] {
		streams[:cap(streams)][i] = told(9, 1, 1, 1, 0, 1)
	}
	for i := range entries[:cap(entries)] {
		entries[:cap(entries)][i] = api.Expect{Next: 5, Age: 3}
	}
	streamsAre(t, x, told(1, 12, 13, 1, 0, 3), told(2, 52, 53, 1, 0, 4))
	expectedIs(t, x, 101, 0, 91, 1)
	kept, expected := x.Streams(), x.Expected()
	of(t, x, 1, 12)
	of(t, x, 3, 91)
	x.Late(1)
	if want := []api.Stream{told(1, 12, 13, 1, 0, 3), told(2, 52, 53, 1, 0, 4)}; !slices.Equal(kept, want) {
		t.Errorf("what was told is %v", kept)
	}
	if want := []api.Expect{{Next: 101}, {Next: 91, Age: 1}}; !slices.Equal(expected, want) {
		t.Errorf("what was told is %v", expected)
	}
}

func TestWhatWasToldOutlivesAStreamThatGoes(t *testing.T) {
	x := made(t, 2, 8, 16, 4, 200)
	for i := range 2 {
		nobodys(t, x, 40*i)
		of(t, x, i+1, 40*i+1)
	}
	kept := x.Streams()
	nobodys(t, x, 80)
	of(t, x, 3, 81)
	if want := []api.Stream{told(1, 2, 3, 1, 0, 2), told(2, 42, 43, 1, 0, 4)}; !slices.Equal(kept, want) {
		t.Errorf("what was told is %v", kept)
	}
}

func TestTellingChangesNothing(t *testing.T) {
	x := made(t, 2, 2, 2, 4, 200)
	nobodys(t, x, 10)
	of(t, x, 1, 11)
	nobodys(t, x, 50, 90)
	for range 5 {
		streamsAre(t, x, told(1, 12, 13, 1, 0, 2))
		expectedIs(t, x, 91, 0, 51, 1)
	}
	nobodys(t, x, 130)
	expectedIs(t, x, 131, 0, 91, 1)
}

// P10.4: what follows.

func TestWhoReadsOnIsInAStreamFromTheSecondAccessOn(t *testing.T) {
	for count := 1; count <= 8; count++ {
		for _, size := range []int{1, 32} {
			for _, begin := range []int{0, 1, 100} {
				x := made(t, 1, size, size, 4, 256)
				for first := begin; first+count <= 256; first += count {
					found, code := x.Access(first, count)
					want := 1
					if first == begin {
						want = 0
					}
					if found.Stream != want || code != api.OK {
						t.Fatalf("Access(%d, %d): %v %d, not of %d", first, count, found, code, want)
					}
				}
			}
		}
	}
}

// readOn reads a disk from its beginning on, while the pace changes by lates and wastes, and asks that what is fetched ahead begins where what was fetched before ended, or, beyond that, where the stream is.
func readOn(t *testing.T, d *draws, degree, blocks, most int) {
	t.Helper()
	x := made(t, 1, 1, 1, degree, blocks)
	end := 0
	for first := 0; first < blocks; {
		count := min(1+d.below(most), blocks-first)
		found, code := x.Access(first, count)
		first += count
		if code != api.OK {
			t.Fatalf("code %d", code)
		}
		if run := found.Ahead; run != (api.Run{}) {
			from := end
			if end == 0 || end < first {
				from = first
			}
			if run.First != from || run.Count < 1 || run.Count > degree || run.First+run.Count > blocks {
				t.Fatalf("degree %d, %d blocks, at %d: %v, behind what ended at %d", degree, blocks, first, run, end)
			}
			if most == 1 && end != 0 && run.First != end {
				t.Fatalf("degree %d, %d blocks, at %d: %v leaves a gap behind %d", degree, blocks, first, run, end)
			}
			end = run.First + run.Count
		}
		x.Late(d.below(2))
		x.Waste(d.below(5) / 4)
	}
	if most == 1 && blocks > 2 && end != blocks {
		t.Errorf("degree %d, %d blocks: fetched ahead up to %d", degree, blocks, end)
	}
}

func TestWhatIsFetchedAheadIsOneBehindTheOther(t *testing.T) {
	d := &draws{state: 10}
	for degree := 1; degree <= 16; degree++ {
		for _, blocks := range []int{1, 2, 3, 4, 8, 9, 50, 255, 256} {
			for most := 1; most <= 8; most++ {
				readOn(t, d, degree, blocks, most)
			}
		}
	}
}

// draws is a row of numbers that look as if they came by chance, and are the same ones each time.
type draws struct{ state uint64 }

func (d *draws) below(n int) int {
	d.state = d.state*6364136223846793005 + 1442695040888963407
	return int(d.state >> 33 % uint64(n))
}

// plain is a tracker as the chapter's words have it: its streams in the order in which they were used, the last one first.
type plain struct {
	most, degree, blocks int
	table                *tap.Table
	byUse                []api.Stream
	began, accesses      int
}

func newPlain(streams, size, life, degree, blocks int) *plain {
	table, _ := tap.New(size, life)
	return &plain{most: streams, degree: degree, blocks: blocks, table: table}
}

func (p *plain) access(first, count int) (api.Found, api.Code) {
	if count < 1 || count > 8 || first < 0 || first >= p.blocks || first+count > p.blocks {
		return api.Found{}, api.Arg
	}
	p.accesses++
	var s api.Stream
	for i := range p.byUse {
		if p.byUse[i].Flow.Next == first {
			s = p.byUse[i]
			p.byUse = slices.Delete(p.byUse, i, i+1)
			break
		}
	}
	if s.ID == 0 {
		if is, _ := p.table.Look(first, count); !is {
			return api.Found{}, api.OK
		}
		if len(p.byUse) == p.most {
			p.byUse = p.byUse[:p.most-1]
		}
		p.began++
		s = api.Stream{ID: p.began, Flow: amp.Start(first)}
	}
	s.Used = p.accesses
	found := api.Found{Stream: s.ID}
	s.Flow, found.Ahead, _ = amp.Read(s.Flow, count, p.degree, p.blocks)
	p.byUse = slices.Insert(p.byUse, 0, s)
	return found, api.OK
}

func (p *plain) change(id int, to func(api.Flow) api.Flow) bool {
	for i := range p.byUse {
		if p.byUse[i].ID == id {
			p.byUse[i].Flow = to(p.byUse[i].Flow)
			return true
		}
	}
	return false
}

func (p *plain) streams() []api.Stream {
	streams := slices.Clone(p.byUse)
	slices.SortFunc(streams, func(a, b api.Stream) int { return a.ID - b.ID })
	return streams
}

// followsIs asks for what P10.4 says of the streams.
func followsIs(t *testing.T, streams []api.Stream, most, degree, blocks, accesses int) {
	t.Helper()
	last := 0
	for _, s := range streams {
		if s.ID <= last || s.Used < 1 || s.Used > accesses || !amp.May(s.Flow, degree, blocks) {
			t.Errorf("degree %d, %d blocks: %v", degree, blocks, streams)
		}
		last = s.ID
	}
	if len(streams) > most {
		t.Errorf("%d streams at most: %v", most, streams)
	}
}

// seen counts how accesses came out.
type seen struct{ refused, nobodys, found, asked, late, waste int }

func (s *seen) count(found api.Found, code api.Code) {
	switch {
	case code != api.OK:
		s.refused++
	case found.Stream == 0:
		s.nobodys++
	default:
		s.found++
	}
	if found.Ahead.Count > 0 {
		s.asked++
	}
}

// reader says what is read next: often on from where one of some is.
func reader(d *draws, at []int, blocks int) (first, count int) {
	count = 1 + d.below(3)
	if d.below(12) == 0 {
		count = d.below(11)
	}
	i := d.below(len(at))
	if at[i] >= blocks || d.below(25) == 0 {
		at[i] = d.below(blocks+2) - 1
	}
	first = at[i]
	if first+count <= blocks && first >= 0 && count <= 8 {
		at[i] += count
	}
	return first, count
}

// together lets both be used, and holds them against each other.
func together(t *testing.T, run int, all *seen) {
	t.Helper()
	d := &draws{state: uint64(run) << 20}
	most, size, life, degree, blocks := 1+d.below(16), 1+d.below(32), 1+d.below(64), 1+d.below(16), 1+d.below(256)
	if run%3 == 0 {
		most, size, life, blocks = 1+d.below(3), 1+d.below(4), 1+d.below(6), 1+d.below(40)
	}
	x, p := made(t, most, size, life, degree, blocks), newPlain(most, size, life, degree, blocks)
	at := make([]int, 1+d.below(2*most))
	for i := range 600 {
		first, count := reader(d, at, blocks)
		got, code := x.Access(first, count)
		want, wanted := p.access(first, count)
		if got != want || code != wanted {
			t.Fatalf("run %d, access %d, (%d, %d): %v %d, not %v %d", run, i, first, count, got, code, want, wanted)
		}
		all.count(got, code)
		id := p.began + 1 - d.below(most+3)
		switch d.below(4) {
		case 0:
			if there := x.Late(id); there != p.change(id, amp.Late) {
				t.Fatalf("run %d, access %d: Late(%d) %v", run, i, id, there)
			} else if there {
				all.late++
			}
		case 1:
			if there := x.Waste(id); there != p.change(id, amp.Waste) {
				t.Fatalf("run %d, access %d: Waste(%d) %v", run, i, id, there)
			} else if there {
				all.waste++
			}
		}
		if !slices.Equal(x.Streams(), p.streams()) || !slices.Equal(x.Expected(), p.table.List()) {
			t.Fatalf("run %d, access %d: %v %v, not %v %v", run, i, x.Streams(), x.Expected(), p.streams(), p.table.List())
		}
		followsIs(t, x.Streams(), most, degree, blocks, p.accesses)
	}
}

func TestBesideAPlainTracker(t *testing.T) {
	var all seen
	for run := range 150 {
		together(t, run, &all)
	}
	for i, n := range []int{all.refused, all.nobodys, all.found, all.asked, all.late, all.waste} {
		if n < 2000 {
			t.Errorf("of the kind %d there were %d only", i, n)
		}
	}
}
