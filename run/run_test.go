package run_test

import (
	"math"
	"slices"
	"testing"

	"forerunner/api"
	"forerunner/run"
)

// greats are numbers that are no bound's neighbours, but may come to one by a sum, a difference, or by their lowest bits.
var greats = []int{math.MinInt, math.MinInt + 1, -1 << 32, -1<<32 + 1, -1<<32 + 8, 1 << 32, 1<<32 + 1, 1<<32 + 8, math.MaxInt - 255, math.MaxInt - 1, math.MaxInt}

// odds are numbers that are no blocks.
var odds = append([]int{-256, -255, -1, 256, 257, 511, 512}, greats...)

func aroundIs(t *testing.T, ready, needy []int, block, most, room int, want api.Run, code api.Code) {
	t.Helper()
	if r, got := run.Around(ready, needy, block, most, room); r != want || got != code {
		t.Errorf("Around(%v, %v, %d, %d, %d): %v %d, not %v %d", ready, needy, block, most, room, r, got, want, code)
	}
}

func coverIs(t *testing.T, blocks []int, most int, want ...api.Run) {
	t.Helper()
	if runs, code := run.Cover(blocks, most); !slices.Equal(runs, want) || code != api.OK {
		t.Errorf("Cover(%v, %d): %v %d, not %v", blocks, most, runs, code, want)
	}
}

func coverFails(t *testing.T, blocks []int, most int) {
	t.Helper()
	if runs, code := run.Cover(blocks, most); len(runs) != 0 || code != api.Arg {
		t.Errorf("Cover(%v, %d): %v %d, not Arg", blocks, most, runs, code)
	}
}

// meetIs tells, too, that it doesn't matter which run is named first.
func meetIs(t *testing.T, a, b, want api.Run) {
	t.Helper()
	if m := run.Meet(a, b); m != want {
		t.Errorf("Meet(%v, %v): %v, not %v", a, b, m, want)
	}
	if m := run.Meet(b, a); m != want {
		t.Errorf("Meet(%v, %v): %v, not %v", b, a, m, want)
	}
}

func blocksAre(t *testing.T, r api.Run, want ...int) {
	t.Helper()
	if blocks := run.Blocks(r); !slices.Equal(blocks, want) {
		t.Errorf("Blocks(%v): %v, not %v", r, blocks, want)
	}
}

// of is the run of so many blocks from one on.
func of(first, count int) api.Run { return api.Run{First: first, Count: count} }

// upTo are the blocks from one on, below another one.
func upTo(first, end int) []int {
	var blocks []int
	for block := first; block < end; block++ {
		blocks = append(blocks, block)
	}
	return blocks
}

// isnt are the runs that may not be.
func isnt() []api.Run {
	runs := []api.Run{{}, of(-1, 1), of(-1, 2), of(-255, 256), of(0, -1), of(5, 0), of(5, -5), of(256, 1), of(256, 0), of(255, 2), of(254, 3), of(0, 257), of(1, 256), of(-1, 257), of(256, -1), of(300, -100)}
	for _, great := range greats {
		runs = append(runs, of(great, 1), of(great, 8), of(0, great), of(1, great), of(255, great), of(great, great))
		for _, other := range greats {
			runs = append(runs, of(great, other))
		}
		// The sum of these comes to a bound by its wrap-round alone, or to one that lies within.
		runs = append(runs, of(great, 256-great), of(256-great, great), of(great, -great), of(great, 10-great))
	}
	return slices.DeleteFunc(runs, func(r api.Run) bool {
		return r.First >= 0 && r.First < 256 && r.Count >= 1 && r.Count <= 256 && r.First+r.Count <= 256
	})
}

// P13.1: the run around a block.

func TestAroundGoesUpFirst(t *testing.T) {
	ready := upTo(10, 21)
	for _, c := range []struct {
		block, most int
		want        api.Run
	}{
		{15, 1, of(15, 1)}, {15, 2, of(15, 2)}, {15, 3, of(15, 3)}, {15, 6, of(15, 6)}, {15, 7, of(14, 7)}, {15, 8, of(13, 8)},
		{10, 8, of(10, 8)}, {13, 8, of(13, 8)}, {14, 8, of(13, 8)}, {20, 8, of(13, 8)}, {20, 2, of(19, 2)}, {19, 3, of(18, 3)}, {20, 1, of(20, 1)},
	} {
		aroundIs(t, ready, nil, c.block, c.most, 0, c.want, api.OK)
	}
	aroundIs(t, upTo(10, 14), nil, 12, 8, 0, of(10, 4), api.OK)
	aroundIs(t, []int{7}, nil, 7, 8, 0, of(7, 1), api.OK)
}

func TestAroundStopsAtGaps(t *testing.T) {
	aroundIs(t, []int{3, 4, 6, 7, 1}, nil, 4, 8, 5, of(3, 2), api.OK)
	aroundIs(t, []int{3, 4, 6, 7, 1}, nil, 6, 8, 5, of(6, 2), api.OK)
	aroundIs(t, []int{3, 4, 6, 7, 1}, nil, 1, 8, 5, of(1, 1), api.OK)
	aroundIs(t, []int{2, 4, 6}, nil, 4, 8, 5, of(4, 1), api.OK)
}

func TestAroundEndsOfADisk(t *testing.T) {
	all := upTo(0, 256)
	aroundIs(t, all, nil, 0, 8, 0, of(0, 8), api.OK)
	aroundIs(t, all, nil, 255, 8, 0, of(248, 8), api.OK)
	aroundIs(t, all, nil, 254, 4, 0, of(252, 4), api.OK)
	aroundIs(t, all, nil, 249, 8, 0, of(248, 8), api.OK)
	aroundIs(t, []int{0, 1, -1, -2}, nil, 1, 8, 0, of(0, 2), api.OK)
	aroundIs(t, []int{256, 255, 257}, nil, 255, 8, 0, of(255, 1), api.OK)
	aroundIs(t, []int{256, 255, 254, 257}, []int{254}, 255, 8, 1, of(254, 2), api.OK)
	aroundIs(t, []int{0, 255}, nil, 0, 8, 0, of(0, 1), api.OK)
	aroundIs(t, []int{0, 255}, nil, 255, 8, 0, of(255, 1), api.OK)
}

func TestAroundRoom(t *testing.T) {
	ready := upTo(10, 21)
	for room, want := range []api.Run{{}, of(15, 1), of(15, 2), of(15, 3), of(15, 4), of(15, 5), of(15, 6), of(14, 7), of(13, 8), of(13, 8)} {
		code := api.OK
		if room == 0 {
			code = api.Full
		}
		aroundIs(t, ready, ready, 15, 8, room, want, code)
	}
	// Those that aren't needy are added whatever room is left, behind a needy one, too.
	aroundIs(t, ready, []int{15}, 15, 8, 1, of(13, 8), api.OK)
	aroundIs(t, ready, []int{16}, 15, 8, 0, of(10, 6), api.OK)
	aroundIs(t, ready, []int{14}, 15, 8, 0, of(15, 6), api.OK)
	aroundIs(t, ready, []int{14, 16}, 15, 8, 0, of(15, 1), api.OK)
	aroundIs(t, ready, []int{14, 16}, 15, 8, 1, of(15, 6), api.OK)
	aroundIs(t, ready, []int{14, 17}, 15, 8, 1, of(15, 6), api.OK)
	aroundIs(t, ready, []int{14, 17}, 15, 8, 2, of(13, 8), api.OK)
	aroundIs(t, ready, []int{13, 17, 18}, 15, 8, 1, of(14, 4), api.OK)
	// What is refused above leaves its room to what lies below.
	aroundIs(t, ready, []int{15, 16, 12}, 15, 8, 1, of(13, 3), api.OK)
	aroundIs(t, []int{13, 14, 15}, []int{16, 14}, 15, 8, 1, of(13, 3), api.OK)
	aroundIs(t, ready, ready, 15, 8, math.MaxInt, of(13, 8), api.OK)
	aroundIs(t, ready, nil, 15, 8, math.MaxInt, of(13, 8), api.OK)
}

// What is needy, but not ready, is neither added nor paid for.
func TestAroundNeedyButNotReady(t *testing.T) {
	aroundIs(t, []int{4, 6}, []int{3, 5, 7}, 4, 8, 9, of(4, 1), api.OK)
	aroundIs(t, []int{4, 5}, []int{3, 5, 6}, 4, 8, 1, of(4, 2), api.OK)
	aroundIs(t, []int{4}, []int{5}, 5, 8, 9, api.Run{}, api.Arg)
}

func TestAroundListsInAnyOrder(t *testing.T) {
	ready := []int{5, 3, 4, 4, 4, 3, 7, 9, 8, 8, 5}
	needy := []int{4, 5, 5, 4, 9, 9, 4}
	aroundIs(t, ready, needy, 4, 8, 2, of(3, 3), api.OK)
	aroundIs(t, ready, needy, 4, 8, 1, of(3, 2), api.OK)
	aroundIs(t, ready, needy, 8, 8, 1, of(7, 3), api.OK)
	aroundIs(t, ready, needy, 8, 8, 0, of(7, 2), api.OK)
	aroundIs(t, slices.Concat(odds, ready, odds), slices.Concat(odds, needy, odds), 4, 8, 2, of(3, 3), api.OK)
	aroundIs(t, slices.Concat(odds, upTo(0, 2), upTo(254, 256)), odds, 0, 8, 0, of(0, 2), api.OK)
	aroundIs(t, slices.Concat(odds, upTo(0, 2), upTo(254, 256)), odds, 255, 8, 0, of(254, 2), api.OK)
}

func TestAroundArg(t *testing.T) {
	ready := append(upTo(0, 256), odds...)
	for _, most := range append([]int{-8, -1, 0, 9, 10, 16, 264}, greats...) {
		aroundIs(t, ready, nil, 4, most, 5, api.Run{}, api.Arg)
	}
	for _, room := range append([]int{-1, -2}, greats...) {
		if room < 0 {
			aroundIs(t, ready, nil, 4, 3, room, api.Run{}, api.Arg)
		}
	}
	for _, block := range odds {
		aroundIs(t, ready, nil, block, 3, 5, api.Run{}, api.Arg)
		aroundIs(t, ready, []int{block}, block, 3, 5, api.Run{}, api.Arg)
	}
	aroundIs(t, []int{3, 5}, nil, 4, 3, 5, api.Run{}, api.Arg)
	aroundIs(t, nil, nil, 0, 3, 5, api.Run{}, api.Arg)
}

func TestAroundFull(t *testing.T) {
	for _, most := range []int{1, 3, 8} {
		aroundIs(t, upTo(0, 256), []int{4}, 4, most, 0, api.Run{}, api.Full)
		aroundIs(t, upTo(0, 256), []int{4}, 4, most, 1, of(4, most), api.OK)
	}
	aroundIs(t, upTo(0, 256), []int{0, 255, 255}, 0, 8, 0, api.Run{}, api.Full)
	aroundIs(t, upTo(0, 256), []int{0, 255, 255}, 255, 8, 0, api.Run{}, api.Full)
	// Arg goes ahead of Full.
	aroundIs(t, upTo(0, 256), []int{4}, 4, 0, 0, api.Run{}, api.Arg)
	aroundIs(t, upTo(0, 256), []int{4}, 4, 9, 0, api.Run{}, api.Arg)
	aroundIs(t, upTo(0, 256), []int{4}, 4, 3, -1, api.Run{}, api.Arg)
	aroundIs(t, []int{3, 5}, []int{4}, 4, 3, 0, api.Run{}, api.Arg)
	aroundIs(t, []int{-1, 256}, []int{-1, 256}, 256, 3, 0, api.Run{}, api.Arg)
}

// P13.2: the runs that have just these blocks.

func TestCover(t *testing.T) {
	coverIs(t, nil, 1)
	coverIs(t, []int{}, 8)
	coverIs(t, []int{0}, 1, of(0, 1))
	coverIs(t, []int{255}, 8, of(255, 1))
	coverIs(t, upTo(3, 8), 1, of(3, 1), of(4, 1), of(5, 1), of(6, 1), of(7, 1))
	coverIs(t, upTo(3, 8), 2, of(3, 2), of(5, 2), of(7, 1))
	coverIs(t, upTo(3, 8), 4, of(3, 4), of(7, 1))
	coverIs(t, upTo(3, 8), 5, of(3, 5))
	coverIs(t, upTo(3, 8), 8, of(3, 5))
	coverIs(t, append(upTo(3, 8), upTo(9, 20)...), 8, of(3, 5), of(9, 8), of(17, 3))
	coverIs(t, append(upTo(3, 6), upTo(7, 9)...), 4, of(3, 3), of(7, 2))
	coverIs(t, []int{0, 2, 4, 255}, 8, of(0, 1), of(2, 1), of(4, 1), of(255, 1))
	coverIs(t, []int{0, 255}, 8, of(0, 1), of(255, 1))
	coverIs(t, []int{254, 255}, 8, of(254, 2))
}

func TestCoverWholeDisk(t *testing.T) {
	for most := 1; most <= 8; most++ {
		var want []api.Run
		for first := 0; first < 256; first += most {
			want = append(want, of(first, min(most, 256-first)))
		}
		coverIs(t, upTo(0, 256), most, want...)
	}
}

func TestCoverListInAnyOrder(t *testing.T) {
	coverIs(t, []int{5, 1, 4, 9, 4, 1, 5, 5, 10, 3}, 2, of(1, 1), of(3, 2), of(5, 1), of(9, 2))
	coverIs(t, []int{7, 7, 7, 7}, 3, of(7, 1))
	coverIs(t, []int{255, 0, 254, 1}, 8, of(0, 2), of(254, 2))
}

func TestCoverArg(t *testing.T) {
	for _, most := range append([]int{-8, -1, 0, 9, 10, 16, 264}, greats...) {
		coverFails(t, upTo(3, 8), most)
		coverFails(t, nil, most)
	}
	for _, odd := range odds {
		coverFails(t, []int{odd}, 3)
		coverFails(t, []int{odd, 1, 2}, 3)
		coverFails(t, []int{1, odd, 2}, 3)
		coverFails(t, []int{1, 2, odd}, 3)
		coverFails(t, []int{odd}, 9)
	}
}

// P13.3: the blocks that two runs have, and those of one.

func TestMeet(t *testing.T) {
	meetIs(t, of(2, 4), of(4, 9), of(4, 2))
	meetIs(t, of(2, 4), of(5, 9), of(5, 1))
	meetIs(t, of(2, 4), of(6, 9), api.Run{})
	meetIs(t, of(2, 4), of(7, 9), api.Run{})
	meetIs(t, of(2, 4), of(2, 4), of(2, 4))
	meetIs(t, of(2, 4), of(3, 2), of(3, 2))
	meetIs(t, of(2, 4), of(2, 1), of(2, 1))
	meetIs(t, of(2, 4), of(5, 1), of(5, 1))
	meetIs(t, of(0, 256), of(0, 256), of(0, 256))
	meetIs(t, of(0, 256), of(17, 30), of(17, 30))
	meetIs(t, of(0, 256), of(255, 1), of(255, 1))
	meetIs(t, of(0, 256), of(0, 1), of(0, 1))
	meetIs(t, of(0, 1), of(255, 1), api.Run{})
	meetIs(t, of(0, 128), of(128, 128), api.Run{})
	meetIs(t, of(0, 129), of(128, 128), of(128, 1))
	meetIs(t, of(250, 6), of(255, 1), of(255, 1))
}

func TestMeetAndBlocksOfARunThatMayNotBe(t *testing.T) {
	for _, r := range isnt() {
		blocksAre(t, r)
		meetIs(t, r, of(0, 256), api.Run{})
		meetIs(t, r, of(0, 1), api.Run{})
		meetIs(t, r, of(255, 1), api.Run{})
		meetIs(t, r, r, api.Run{})
	}
}

func TestBlocks(t *testing.T) {
	blocksAre(t, of(0, 1), 0)
	blocksAre(t, of(255, 1), 255)
	blocksAre(t, of(3, 4), 3, 4, 5, 6)
	blocksAre(t, of(254, 2), 254, 255)
	blocksAre(t, of(0, 256), upTo(0, 256)...)
	blocksAre(t, of(100, 156), upTo(100, 256)...)
}

// All runs of the lowest and of the highest blocks, those that may not be among them, are held against their blocks, gone through one by one.
func TestMeetHasWhatBothHave(t *testing.T) {
	for _, base := range []int{-2, 250} {
		var runs []api.Run
		for first := base; first < base+9; first++ {
			for count := -1; count < 9; count++ {
				runs = append(runs, of(first, count))
			}
		}
		for _, a := range runs {
			for _, b := range runs {
				var both []int
				for block := -20; block < 300; block++ {
					if plainHas(a, block) && plainHas(b, block) {
						both = append(both, block)
					}
				}
				m := run.Meet(a, b)
				if blocks := run.Blocks(m); !slices.Equal(blocks, both) || len(both) == 0 && m != (api.Run{}) {
					t.Fatalf("Meet(%v, %v): %v, %v, not %v", a, b, m, blocks, both)
				}
			}
		}
	}
}

// plainHas tells whether a run that may be has a block, both of them small.
func plainHas(r api.Run, block int) bool {
	return r.First >= 0 && r.Count >= 1 && r.First+r.Count <= 256 && r.First <= block && block < r.First+r.Count
}

// P13.4: what follows.

// A run around a block is held against the document's words, of lists that are drawn, and so are the runs of Cover.
func TestAroundAndCoverPlain(t *testing.T) {
	d := &draws{state: 7}
	var codes [10]int
	for range 20000 {
		ready, needy := d.list(), d.list()
		block, most, room := d.block(), d.below(11)-1, d.below(10)-1
		want, code := plainAround(ready, needy, block, most, room)
		aroundIs(t, ready, needy, block, most, room, want, code)
		codes[code]++
		if code == api.OK {
			follows(t, ready, needy, block, most, room, want)
		}
		wants, code := plainCover(ready, most)
		if code == api.OK {
			coverIs(t, ready, most, wants...)
		} else {
			coverFails(t, ready, most)
		}
		codes[code]++
		if t.Failed() {
			t.FailNow()
		}
	}
	for _, code := range []api.Code{api.OK, api.Arg, api.Full} {
		if codes[code] < 100 {
			t.Errorf("code %d came %d times alone", code, codes[code])
		}
	}
}

// follows: a run around a block has it, has ready ones alone, and no more that are needy than there is room for.
func follows(t *testing.T, ready, needy []int, block, most, room int, r api.Run) {
	t.Helper()
	blocks := run.Blocks(r)
	needies := 0
	for _, b := range blocks {
		if !slices.Contains(ready, b) {
			t.Errorf("P13.4: %v around %d has %d, which isn't ready", r, block, b)
		}
		if slices.Contains(needy, b) {
			needies++
		}
	}
	if !slices.Contains(blocks, block) || needies > room || len(blocks) > most {
		t.Errorf("P13.4: %v around %d: %d of most %d, %d needy of room %d", r, block, len(blocks), most, needies, room)
	}
}

// plainAround grows to the one side as long as it can, and to the other one then.
func plainAround(ready, needy []int, block, most, room int) (api.Run, api.Code) {
	if most < 1 || most > 8 || room < 0 || block < 0 || block > 255 || !slices.Contains(ready, block) {
		return api.Run{}, api.Arg
	}
	costs := func(b int) int {
		if slices.Contains(needy, b) {
			return 1
		}
		return 0
	}
	if costs(block) == 1 && room == 0 {
		return api.Run{}, api.Full
	}
	left := room - costs(block)
	low, high := block, block
	for high-low+1 < most && high+1 <= 255 && slices.Contains(ready, high+1) && costs(high+1) <= left {
		high++
		left -= costs(high)
	}
	for high-low+1 < most && low-1 >= 0 && slices.Contains(ready, low-1) && costs(low-1) <= left {
		low--
		left -= costs(low)
	}
	return of(low, high-low+1), api.OK
}

// plainCover takes from the lowest block that is left on as many as there are one behind the other.
func plainCover(blocks []int, most int) ([]api.Run, api.Code) {
	if most < 1 || most > 8 {
		return nil, api.Arg
	}
	left := map[int]int{}
	for _, b := range blocks {
		if b < 0 || b > 255 {
			return nil, api.Arg
		}
		left[b] = 1
	}
	var runs []api.Run
	for first := 0; first < 256; first++ {
		count := 0
		for count < most && left[first+count] == 1 {
			left[first+count] = 0
			count++
		}
		if count > 0 {
			runs = append(runs, of(first, count))
		}
	}
	return runs, api.OK
}

// No fewer runs than Cover tells have all these blocks: every set of nine blocks is held against the fewest there can be, found block by block from the end on.
func TestCoverTellsTheFewest(t *testing.T) {
	for bits := range 1 << 9 {
		var blocks []int
		for b := range 9 {
			if bits>>b&1 == 1 {
				blocks = append(blocks, b)
			}
		}
		for most := 1; most <= 8; most++ {
			runs, code := run.Cover(blocks, most)
			if code != api.OK || len(runs) != fewest(bits, most) {
				t.Fatalf("P13.4: Cover(%v, %d): %v %d, not %d runs", blocks, most, runs, code, fewest(bits, most))
			}
			var has []int
			for _, r := range runs {
				if r.Count > most {
					t.Errorf("Cover(%v, %d): %v is too long", blocks, most, r)
				}
				has = append(has, run.Blocks(r)...)
			}
			if !slices.Equal(has, blocks) {
				t.Fatalf("Cover(%v, %d): %v has %v", blocks, most, runs, has)
			}
		}
	}
}

// fewest is how many runs at least have just the blocks that the bits tell: of the first n blocks, the least over all lengths of the last run.
func fewest(bits, most int) int {
	least := make([]int, 10)
	for n := 1; n <= 9; n++ {
		if bits>>(n-1)&1 == 0 {
			least[n] = least[n-1]
			continue
		}
		least[n] = 100
		for count := 1; count <= min(most, n) && bits>>(n-count)&1 == 1; count++ {
			least[n] = min(least[n], least[n-count]+1)
		}
	}
	return least[9]
}

// What is handed in isn't changed, its spare room neither; what is told is memory of its own.
func TestNothingIsShared(t *testing.T) {
	ready := append(make([]int, 0, 16), 5, 3, 4, 300, 4)
	needy := append(make([]int, 0, 16), 4, 4, 3)
	readies, needies := slices.Clone(ready[:16]), slices.Clone(needy[:16])
	aroundIs(t, ready, needy, 4, 3, 2, of(3, 3), api.OK)
	aroundIs(t, ready[:3], needy, 4, 3, 0, api.Run{}, api.Full)
	coverIs(t, ready[:3], 2, of(3, 2), of(5, 1))
	coverFails(t, ready, 2)
	if !slices.Equal(ready[:16], readies) || !slices.Equal(needy[:16], needies) {
		t.Error("a list that was handed in is changed")
	}
	runs, _ := run.Cover(ready[:3], 2)
	runs[0] = of(9, 9)
	coverIs(t, ready[:3], 2, of(3, 2), of(5, 1))
	blocks := run.Blocks(of(3, 2))
	blocks[0] = 9
	blocksAre(t, of(3, 2), 3, 4)
}

func TestTheExample(t *testing.T) {
	ready := []int{3, 4, 5, 7}
	aroundIs(t, ready, nil, 4, 3, 0, of(3, 3), api.OK)
	aroundIs(t, ready, nil, 4, 2, 0, of(4, 2), api.OK)
	coverIs(t, []int{1, 2, 3, 7}, 2, of(1, 2), of(3, 1), of(7, 1))
}

// draws are numbers drawn one after the other, the same in each run of the tests.
type draws struct{ state uint64 }

func (d *draws) below(n int) int {
	d.state = d.state*6364136223846793005 + 1442695040888963407
	return int(d.state >> 33 % uint64(n))
}

// block draws a number that lies near one of the disk's ends, mostly a block.
func (d *draws) block() int {
	b := d.below(14) - 1
	if d.below(2) == 0 {
		return 255 - b
	}
	return b
}

// list draws some blocks, many of them one behind the other; now and then others than blocks, too.
func (d *draws) list() []int {
	var blocks []int
	odd := d.below(2) == 0
	for range d.below(40) {
		if b := d.block(); odd || 0 <= b && b <= 255 {
			blocks = append(blocks, b)
		}
	}
	return blocks
}
