package sarc_test

import (
	"math"
	"slices"
	"testing"

	"forerunner/api"
	"forerunner/sarc"
)

func made(t *testing.T, frames, bottom int) *sarc.Sarc {
	t.Helper()
	s, code := sarc.New(frames, bottom)
	if code != api.OK || s == nil {
		t.Fatalf("New(%d, %d): %v %d", frames, bottom, s, code)
	}
	return s
}

func enter(t *testing.T, s *sarc.Sarc, frame, list int, want api.Code) {
	t.Helper()
	if code := s.Enter(frame, list); code != want {
		t.Errorf("Enter(%d, %d): %d, not %d", frame, list, code, want)
	}
}

func ready(t *testing.T, s *sarc.Sarc, frame int, want api.Code) {
	t.Helper()
	if code := s.Ready(frame); code != want {
		t.Errorf("Ready(%d): %d, not %d", frame, code, want)
	}
}

func hit(t *testing.T, s *sarc.Sarc, frame, list int, want api.Code) {
	t.Helper()
	if code := s.Hit(frame, list); code != want {
		t.Errorf("Hit(%d, %d): %d, not %d", frame, list, code, want)
	}
}

func miss(t *testing.T, s *sarc.Sarc, list int, want api.Code) {
	t.Helper()
	if code := s.Miss(list); code != want {
		t.Errorf("Miss(%d): %d, not %d", list, code, want)
	}
}

// missSeq is so many misses of the list Seq.
func missSeq(t *testing.T, s *sarc.Sarc, times int) {
	t.Helper()
	for range times {
		miss(t, s, api.Seq, api.OK)
	}
}

func gone(t *testing.T, s *sarc.Sarc, frame int, want api.Code) {
	t.Helper()
	if code := s.Gone(frame); code != want {
		t.Errorf("Gone(%d): %d, not %d", frame, code, want)
	}
}

func victimIs(t *testing.T, s *sarc.Sarc, frame int, there bool) {
	t.Helper()
	if got, ok := s.Victim(); got != frame || ok != there {
		t.Errorf("Victim: %d %v, not %d %v", got, ok, frame, there)
	}
}

// come lets frames enter a list, one behind the other, and lets go of each.
func come(t *testing.T, s *sarc.Sarc, list int, frames ...int) {
	t.Helper()
	for _, frame := range frames {
		enter(t, s, frame, list, api.OK)
		ready(t, s, frame, api.OK)
	}
}

// comeHeld lets frames enter a list, one behind the other, that stay held.
func comeHeld(t *testing.T, s *sarc.Sarc, list int, frames ...int) {
	t.Helper()
	for _, frame := range frames {
		enter(t, s, frame, list, api.OK)
	}
}

func listsAre(t *testing.T, s *sarc.Sarc, seq, rand []int) {
	t.Helper()
	if p := s.Policy(); !slices.Equal(p.Lists[api.Seq], seq) || !slices.Equal(p.Lists[api.Rand], rand) {
		t.Errorf("the lists: %v, not %v %v", p.Lists, seq, rand)
	}
}

func heldIs(t *testing.T, s *sarc.Sarc, want ...int) {
	t.Helper()
	if p := s.Policy(); !slices.Equal(p.Held, want) {
		t.Errorf("held: %v, not %v", p.Held, want)
	}
}

func roomIs(t *testing.T, s *sarc.Sarc, want int) {
	t.Helper()
	if room := s.Room(); room != want {
		t.Errorf("Room: %d, not %d", room, want)
	}
}

func countsAre(t *testing.T, s *sarc.Sarc, want int, misses, hits uint64) {
	t.Helper()
	if p := s.Policy(); p.Want != want || p.Miss != misses || p.Hits != hits {
		t.Errorf("Want, Miss and Hits: %d %d %d, not %d %d %d", p.Want, p.Miss, p.Hits, want, misses, hits)
	}
}

func same(a, b api.Policy) bool {
	return slices.Equal(a.Lists[0], b.Lists[0]) && slices.Equal(a.Lists[1], b.Lists[1]) && slices.Equal(a.Held, b.Held) && a.Want == b.Want && a.Miss == b.Miss && a.Hits == b.Hits
}

// unchanged asks that what is done changes nothing that is told.
func unchanged(t *testing.T, s *sarc.Sarc, do func()) {
	t.Helper()
	before, room := s.Policy(), s.Room()
	do()
	if after := s.Policy(); !same(before, after) || s.Room() != room {
		t.Errorf("%v and %d, not %v and %d", after, s.Room(), before, room)
	}
}

// victims takes all that can go, in their order.
func victims(s *sarc.Sarc) []int {
	var all []int
	for range api.MaxFrames + 1 {
		frame, ok := s.Victim()
		if !ok {
			break
		}
		all = append(all, frame)
	}
	return all
}

// notFrames are numbers that no frame of a policy of so many has.
func notFrames(frames int) []int {
	return []int{-1, -2, -64, math.MinInt, math.MinInt + 1, frames, frames + 1, frames + 2, 64, 65, 66, 1 << 32, math.MaxInt}
}

// notLists are numbers that no list has.
func notLists() []int {
	return []int{-1, -2, 2, 3, 64, 1 << 32, 1<<32 + 1, math.MinInt, math.MaxInt}
}

// P7.1: a policy is made, frames enter, and are ready.

func TestNew(t *testing.T) {
	for frames := -3; frames <= 70; frames++ {
		for bottom := -3; bottom <= 70; bottom++ {
			want := api.Arg
			if 1 <= frames && frames <= 64 && 1 <= bottom && bottom <= frames {
				want = api.OK
			}
			s, code := sarc.New(frames, bottom)
			if code != want || (s == nil) != (want != api.OK) {
				t.Errorf("New(%d, %d): %v %d, not %d", frames, bottom, s, code, want)
			}
		}
	}
}

func TestNewOfGreatNumbers(t *testing.T) {
	great := []int{math.MinInt, math.MinInt + 1, -1 << 32, 1<<32 + 1, math.MaxInt - 2, math.MaxInt}
	for _, a := range great {
		for _, c := range [][2]int{{a, 1}, {a, a}, {a, -a}, {64, a}, {1, a}, {a, 64}} {
			if s, code := sarc.New(c[0], c[1]); s != nil || code != api.Arg {
				t.Errorf("New(%d, %d): %v %d", c[0], c[1], s, code)
			}
		}
	}
}

func TestAtFirstThereIsNothing(t *testing.T) {
	for _, frames := range []int{1, 2, 3, 63, 64} {
		s := made(t, frames, 1)
		listsAre(t, s, nil, nil)
		heldIs(t, s)
		countsAre(t, s, 0, 0, 0)
		roomIs(t, s, 0)
		victimIs(t, s, 0, false)
		for frame := range frames {
			ready(t, s, frame, api.NotFound)
			hit(t, s, frame, api.Seq, api.NotFound)
			hit(t, s, frame, api.Rand, api.NotFound)
			gone(t, s, frame, api.NotFound)
		}
	}
}

func TestEnter(t *testing.T) {
	s := made(t, 6, 2)
	comeHeld(t, s, api.Seq, 3)
	listsAre(t, s, []int{3}, nil)
	heldIs(t, s, 3)
	comeHeld(t, s, api.Rand, 5, 0)
	comeHeld(t, s, api.Seq, 1)
	listsAre(t, s, []int{1, 3}, []int{0, 5})
	heldIs(t, s, 0, 1, 3, 5)
	ready(t, s, 3, api.OK)
	ready(t, s, 0, api.OK)
	comeHeld(t, s, api.Rand, 4)
	listsAre(t, s, []int{1, 3}, []int{4, 0, 5})
	heldIs(t, s, 1, 4, 5)
	countsAre(t, s, 0, 0, 0)
}

func TestEnterOfOneThatLiesInAList(t *testing.T) {
	s := made(t, 4, 1)
	comeHeld(t, s, api.Seq, 0)
	come(t, s, api.Rand, 1)
	unchanged(t, s, func() {
		for frame := range 2 {
			enter(t, s, frame, api.Seq, api.Exists)
			enter(t, s, frame, api.Rand, api.Exists)
		}
	})
	come(t, s, api.Seq, 2)
	come(t, s, api.Rand, 3)
	enter(t, s, 1, api.Rand, api.Exists) // that is no use, either
	ready(t, s, 0, api.OK)
	gone(t, s, 0, api.OK)
	gone(t, s, 3, api.OK)
	missSeq(t, s, 2)
	if all := victims(s); !slices.Equal(all, []int{1, 2}) {
		t.Errorf("%v went", all)
	}
}

func TestReady(t *testing.T) {
	s := made(t, 4, 2)
	comeHeld(t, s, api.Seq, 0, 1, 2)
	ready(t, s, 1, api.OK)
	heldIs(t, s, 0, 2)
	listsAre(t, s, []int{2, 1, 0}, nil)
	unchanged(t, s, func() {
		ready(t, s, 1, api.Busy)
		ready(t, s, 3, api.NotFound)
	})
	ready(t, s, 0, api.OK)
	ready(t, s, 2, api.OK)
	ready(t, s, 2, api.Busy)
	heldIs(t, s)
	listsAre(t, s, []int{2, 1, 0}, nil)
	gone(t, s, 2, api.OK)
	ready(t, s, 2, api.NotFound)
	enter(t, s, 2, api.Rand, api.OK)
	ready(t, s, 2, api.OK)
}

func TestOfNoSuchFrameOrList(t *testing.T) {
	for _, frames := range []int{1, 2, 5, 63, 64} {
		s := made(t, frames, 1)
		for round := range 3 { // with nothing in the lists, one held frame, and all of them
			for frame := range []int{0, 1, frames}[round] {
				if round == 1 || frame > 0 {
					enter(t, s, frame, frame%2, api.OK)
				}
			}
			unchanged(t, s, func() { refusesAll(t, s, frames) })
		}
	}
}

// refusesAll asks of each call to refuse what isn't there.
func refusesAll(t *testing.T, s *sarc.Sarc, frames int) {
	t.Helper()
	for _, frame := range notFrames(frames) {
		if frame >= 0 && frame < frames {
			continue
		}
		for _, list := range append(notLists(), api.Seq, api.Rand) {
			enter(t, s, frame, list, api.Arg)
			hit(t, s, frame, list, api.Arg)
		}
		ready(t, s, frame, api.Arg)
		gone(t, s, frame, api.Arg)
	}
	for _, list := range notLists() {
		for _, frame := range []int{0, frames - 1} {
			enter(t, s, frame, list, api.Arg) // ahead of Exists
			hit(t, s, frame, list, api.Arg)   // ahead of NotFound
		}
		miss(t, s, list, api.Arg)
	}
}

// P7.2: frames are hit, and go; something is missed.

func TestHitPutsInFront(t *testing.T) {
	for _, c := range []struct {
		frame, list int
		seq, rand   []int
	}{
		{0, api.Seq, []int{0, 2, 1}, []int{5, 4, 3}},
		{1, api.Seq, []int{1, 2, 0}, []int{5, 4, 3}},
		{2, api.Seq, []int{2, 1, 0}, []int{5, 4, 3}},
		{3, api.Seq, []int{3, 2, 1, 0}, []int{5, 4}},
		{5, api.Seq, []int{5, 2, 1, 0}, []int{4, 3}},
		{0, api.Rand, []int{2, 1}, []int{0, 5, 4, 3}},
		{2, api.Rand, []int{1, 0}, []int{2, 5, 4, 3}},
		{3, api.Rand, []int{2, 1, 0}, []int{3, 5, 4}},
		{4, api.Rand, []int{2, 1, 0}, []int{4, 5, 3}},
		{5, api.Rand, []int{2, 1, 0}, []int{5, 4, 3}},
	} {
		s := made(t, 7, 2)
		come(t, s, api.Seq, 0, 1, 2)
		come(t, s, api.Rand, 3, 4, 5)
		hit(t, s, c.frame, c.list, api.OK)
		listsAre(t, s, c.seq, c.rand)
		heldIs(t, s)
	}
}

func TestWhatIsHitIsHeldIfItWas(t *testing.T) {
	s := made(t, 4, 1)
	comeHeld(t, s, api.Seq, 0)
	come(t, s, api.Seq, 1)
	for _, list := range []int{api.Seq, api.Rand, api.Rand, api.Seq} {
		hit(t, s, 0, list, api.OK)
		hit(t, s, 1, list, api.OK)
		heldIs(t, s, 0)
	}
	ready(t, s, 0, api.OK)
	hit(t, s, 0, api.Rand, api.OK)
	heldIs(t, s)
}

func TestHitsCountInTheBottomOfRandAlone(t *testing.T) {
	for frame, want := range []uint64{0, 0, 0, 1, 1, 0, 0} { // 3 and 4 are the bottom of Rand, 0 and 1 that of Seq
		for list := range 2 {
			s := made(t, 8, 2)
			come(t, s, api.Seq, 0, 1, 2)
			come(t, s, api.Rand, 3, 4, 5, 6)
			hit(t, s, frame, list, api.OK)
			countsAre(t, s, 0, 0, want)
			hit(t, s, 7, list, api.NotFound)
			countsAre(t, s, 0, 0, want)
		}
	}
}

func TestHitsCountForHeldFramesToo(t *testing.T) {
	s := made(t, 4, 1)
	comeHeld(t, s, api.Rand, 2, 3)
	hit(t, s, 3, api.Rand, api.OK)
	countsAre(t, s, 0, 0, 0)
	hit(t, s, 2, api.Rand, api.OK)
	countsAre(t, s, 0, 0, 1)
	hit(t, s, 3, api.Seq, api.OK) // the bottom went on to it
	countsAre(t, s, 0, 0, 2)
	hit(t, s, 3, api.Rand, api.OK) // from Seq
	countsAre(t, s, 0, 0, 2)
	hit(t, s, 3, api.Rand, api.OK) // the first of two
	countsAre(t, s, 0, 0, 2)
	gone(t, s, 2, api.OK)
	hit(t, s, 3, api.Rand, api.OK) // the first and the last
	countsAre(t, s, 0, 0, 3)
}

func TestAnotherHitIsNotWeighed(t *testing.T) {
	s := made(t, 8, 1)
	missSeq(t, s, 2)
	come(t, s, api.Seq, 0, 1)
	come(t, s, api.Rand, 2, 3)
	countsAre(t, s, 2, 2, 0)
	for _, frame := range []int{0, 1, 3} { // 2 misses against no hit: Want would be one more
		hit(t, s, frame, frame/2, api.OK)
		countsAre(t, s, 2, 2, 0)
	}
	miss(t, s, api.Rand, api.OK)
	countsAre(t, s, 2, 2, 0)
}

func TestItIsWeighedAheadOfThat(t *testing.T) {
	s := made(t, 4, 1)
	miss(t, s, api.Seq, api.OK)
	come(t, s, api.Rand, 0)
	hit(t, s, 0, api.Seq, api.OK) // 1 times 1 against 1 times 0, and not times 1
	countsAre(t, s, 2, 1, 1)
	come(t, s, api.Rand, 1)
	hit(t, s, 1, api.Seq, api.OK) // 1 times 1 against 2 times 1
	countsAre(t, s, 1, 1, 2)
}

func TestMiss(t *testing.T) {
	s := made(t, 3, 1)
	come(t, s, api.Seq, 2)
	for range 3 {
		unchanged(t, s, func() { miss(t, s, api.Rand, api.OK) })
	}
	for i := range 5 {
		miss(t, s, api.Seq, api.OK)
		countsAre(t, s, min(i+1, 3), uint64(i+1), 0) // at most 3
	}
	unchanged(t, s, func() { miss(t, s, api.Rand, api.OK) })
	listsAre(t, s, []int{2}, nil)
}

func TestWeighed(t *testing.T) {
	for _, c := range []struct {
		bottom, long, hits, misses int
		want                       int
	}{
		{1, 0, 3, 1, 1}, // against 3 times 0
		{1, 1, 0, 2, 2},
		{1, 1, 2, 1, 0}, // less, and not below 0
		{1, 1, 2, 2, 0}, // the same
		{1, 1, 2, 3, 1}, // greater
		{1, 2, 2, 4, 0}, // 4 times 1 and 2 times 2
		{1, 2, 2, 5, 1},
		{2, 2, 2, 2, 0}, // 2 times 2 and 2 times 2
		{2, 3, 2, 3, 0}, // 3 times 2 and 2 times 3
		{2, 3, 2, 4, 1},
		{3, 1, 3, 1, 0}, // 1 times 3 and 3 times 1
		{3, 1, 3, 2, 1},
		{3, 2, 9, 6, 0},
		{3, 2, 9, 9, 3},
	} {
		s := made(t, 8, c.bottom)
		for frame := range c.long {
			come(t, s, api.Seq, frame)
		}
		come(t, s, api.Rand, 7)
		for range c.hits {
			hit(t, s, 7, api.Rand, api.OK)
		}
		missSeq(t, s, c.misses)
		countsAre(t, s, c.want, uint64(c.misses), uint64(c.hits))
	}
}

func TestHitsMakeWantLess(t *testing.T) {
	s := made(t, 6, 1)
	come(t, s, api.Seq, 0, 1, 2)
	come(t, s, api.Rand, 3)
	missSeq(t, s, 3)
	countsAre(t, s, 3, 3, 0)
	hit(t, s, 3, api.Rand, api.OK) // 3 times 1 and 1 times 3
	countsAre(t, s, 3, 3, 1)
	for i, want := range []int{2, 1, 0, 0, 0} {
		hit(t, s, 3, api.Rand, api.OK)
		countsAre(t, s, want, 3, uint64(i+2))
	}
}

func TestHeldFramesAreWeighedToo(t *testing.T) {
	s := made(t, 4, 1)
	comeHeld(t, s, api.Seq, 0, 1)
	come(t, s, api.Rand, 2)
	hit(t, s, 2, api.Rand, api.OK)
	missSeq(t, s, 2) // 2 times 1 and 1 times 2
	countsAre(t, s, 0, 2, 1)
	miss(t, s, api.Seq, api.OK)
	countsAre(t, s, 1, 3, 1)
}

func TestMissesAreHalved(t *testing.T) {
	s := made(t, 64, 64)
	come(t, s, api.Rand, 0)
	for range 3 {
		hit(t, s, 0, api.Rand, api.OK)
	}
	missSeq(t, s, 63)
	countsAre(t, s, 63, 63, 3)
	miss(t, s, api.Seq, api.OK)
	countsAre(t, s, 64, 32, 1)
	missSeq(t, s, 31)
	countsAre(t, s, 64, 63, 1)
	miss(t, s, api.Seq, api.OK)
	countsAre(t, s, 64, 32, 0)
}

func TestHitsAreHalved(t *testing.T) {
	s := made(t, 64, 1)
	come(t, s, api.Seq, 1)
	come(t, s, api.Rand, 0)
	missSeq(t, s, 5)
	countsAre(t, s, 5, 5, 0)
	for range 63 {
		hit(t, s, 0, api.Rand, api.OK)
	}
	countsAre(t, s, 0, 5, 63)
	hit(t, s, 0, api.Rand, api.OK)
	countsAre(t, s, 0, 2, 32)
	for range 31 {
		hit(t, s, 0, api.Rand, api.OK)
	}
	countsAre(t, s, 0, 2, 63)
	hit(t, s, 0, api.Rand, api.OK)
	countsAre(t, s, 0, 1, 32)
}

func TestItIsWeighedAheadOfHalving(t *testing.T) {
	s := made(t, 64, 1)
	come(t, s, api.Rand, 0)
	hit(t, s, 0, api.Rand, api.OK)
	gone(t, s, 0, api.OK)
	for frame := range 64 {
		come(t, s, api.Seq, frame)
	}
	missSeq(t, s, 63)
	countsAre(t, s, 0, 63, 1)
	miss(t, s, api.Seq, api.OK) // 64 times 1 and 1 times 64, and not 32 times 1 and 0 times 64
	countsAre(t, s, 0, 32, 0)
	miss(t, s, api.Seq, api.OK)
	countsAre(t, s, 1, 33, 0)
}

func TestGone(t *testing.T) {
	for frame, want := range [][2][]int{{{1}, {3, 2}}, {{0}, {3, 2}}, {{1, 0}, {3}}, {{1, 0}, {2}}} {
		s := made(t, 5, 2)
		come(t, s, api.Seq, 0, 1)
		comeHeld(t, s, api.Rand, 2, 3) // who is held may be gone, too
		missSeq(t, s, 2)
		gone(t, s, frame, api.OK)
		listsAre(t, s, want[0], want[1])
		countsAre(t, s, 2, 2, 0)
		unchanged(t, s, func() {
			gone(t, s, frame, api.NotFound)
			gone(t, s, 4, api.NotFound)
			ready(t, s, frame, api.NotFound)
			hit(t, s, frame, api.Seq, api.NotFound)
		})
	}
}

func TestWhatIsGoneMayComeAgain(t *testing.T) {
	s := made(t, 2, 1)
	comeHeld(t, s, api.Seq, 1)
	gone(t, s, 1, api.OK)
	heldIs(t, s)
	listsAre(t, s, nil, nil)
	come(t, s, api.Rand, 1)
	listsAre(t, s, nil, []int{1})
	gone(t, s, 1, api.OK)
	comeHeld(t, s, api.Rand, 1)
	heldIs(t, s, 1)
}

// P7.3: who goes, and how many could.

func TestNobodyGoesWhoIsHeld(t *testing.T) {
	s := made(t, 4, 1)
	comeHeld(t, s, api.Seq, 2, 0)
	comeHeld(t, s, api.Rand, 1, 3)
	unchanged(t, s, func() { victimIs(t, s, 0, false) })
	roomIs(t, s, 0)
	ready(t, s, 0, api.OK)
	roomIs(t, s, 1)
	victimIs(t, s, 0, true)
	victimIs(t, s, 0, false)
	listsAre(t, s, []int{2}, []int{3, 1})
	heldIs(t, s, 1, 2, 3)
}

func TestWhoGoesLiesInNone(t *testing.T) {
	s := made(t, 3, 1)
	missSeq(t, s, 2)
	come(t, s, api.Rand, 1)
	victimIs(t, s, 1, true)
	listsAre(t, s, nil, nil)
	countsAre(t, s, 2, 2, 0)
	ready(t, s, 1, api.NotFound)
	hit(t, s, 1, api.Rand, api.NotFound)
	gone(t, s, 1, api.NotFound)
	comeHeld(t, s, api.Seq, 1)
	heldIs(t, s, 1)
}

func TestJustOneListHasSuch(t *testing.T) {
	for list := range 2 {
		for want := range 5 { // however long Seq should be
			s := made(t, 8, 2)
			missSeq(t, s, want)
			come(t, s, list, 4, 0, 3, 5)
			comeHeld(t, s, 1-list, 1, 2, 6)
			hit(t, s, 4, list, api.OK)
			if all := victims(s); !slices.Equal(all, []int{0, 3, 5, 4}) {
				t.Errorf("of the list %d, at %d: %v went", list, want, all)
			}
			listsAre(t, s, [2][]int{nil, {6, 2, 1}}[list], [2][]int{{6, 2, 1}, nil}[list])
		}
	}
}

func TestTheLastThatIsNotHeldIsLookedAt(t *testing.T) {
	s := made(t, 8, 1)
	comeHeld(t, s, api.Seq, 0, 1)
	come(t, s, api.Seq, 2, 3)
	comeHeld(t, s, api.Rand, 4)
	come(t, s, api.Rand, 5, 6)
	victimIs(t, s, 2, true) // Seq has more than none
	missSeq(t, s, 3)
	victimIs(t, s, 5, true) // Seq has 3, as it should
	victimIs(t, s, 6, true)
	victimIs(t, s, 3, true)
	victimIs(t, s, 0, false)
}

func TestSeqGoesIfItIsLongerThanItShouldBe(t *testing.T) {
	for want := range 8 {
		for long := 2; long <= 6; long++ {
			s := made(t, 8, 2)
			missSeq(t, s, want)
			come(t, s, api.Seq, 0, 1)
			come(t, s, api.Rand, 6, 7)
			for frame := 2; frame < long; frame++ {
				come(t, s, api.Seq, frame)
			}
			goes := 6
			if long > want {
				goes = 0
			}
			victimIs(t, s, goes, true)
		}
	}
}

func TestHeldFramesMakeSeqLonger(t *testing.T) {
	s := made(t, 8, 2)
	missSeq(t, s, 3)
	come(t, s, api.Seq, 0)
	comeHeld(t, s, api.Seq, 1, 2, 3)
	come(t, s, api.Rand, 4, 5)
	victimIs(t, s, 0, true)
}

func TestOneListIsShorterThanTheBottom(t *testing.T) {
	for _, c := range []struct {
		seq, rand, want, goes int
		older                 int
	}{
		{1, 3, 0, 0, api.Seq}, // Seq is short
		{1, 3, 0, 4, api.Rand},
		{1, 3, 8, 0, api.Seq},
		{1, 3, 8, 4, api.Rand},
		{3, 1, 0, 0, api.Seq}, // Rand is
		{3, 1, 0, 4, api.Rand},
		{3, 1, 8, 0, api.Seq},
		{3, 1, 8, 4, api.Rand},
		{1, 1, 0, 4, api.Rand}, // both are
		{1, 1, 8, 0, api.Seq},
		{2, 2, 0, 0, api.Rand}, // none is, so that Want says it
		{2, 2, 8, 4, api.Seq},
		{2, 2, 2, 4, api.Seq},
	} {
		s := made(t, 8, 2)
		missSeq(t, s, c.want)
		frames := [2][]int{[]int{0, 1, 2, 3}[:c.seq], []int{4, 5, 6, 7}[:c.rand]}
		come(t, s, c.older, frames[c.older]...)
		come(t, s, 1-c.older, frames[1-c.older]...)
		if goes, ok := s.Victim(); goes != c.goes || !ok {
			t.Errorf("%v: %d %v", c, goes, ok)
		}
	}
}

func TestHeldFramesMakeAListLongEnough(t *testing.T) {
	s := made(t, 8, 3)
	come(t, s, api.Rand, 0, 1, 2)
	come(t, s, api.Seq, 3)
	comeHeld(t, s, api.Seq, 4, 5)
	victimIs(t, s, 3, true) // Seq has as many as the bottom, and more than Want
	come(t, s, api.Seq, 3)
	gone(t, s, 5, api.OK)
	victimIs(t, s, 0, true) // Seq is short
}

func TestWhatIsAUse(t *testing.T) {
	for _, c := range []struct {
		what string
		do   func(t *testing.T, s *sarc.Sarc)
		goes int
	}{
		{"nothing", func(t *testing.T, s *sarc.Sarc) {}, 0},
		{"a hit", func(t *testing.T, s *sarc.Sarc) { hit(t, s, 0, api.Seq, api.OK) }, 1},
		{"hits of both", func(t *testing.T, s *sarc.Sarc) { hit(t, s, 0, api.Seq, api.OK); hit(t, s, 1, api.Rand, api.OK) }, 0},
		{"a hit that is refused", func(t *testing.T, s *sarc.Sarc) { hit(t, s, 0, 2, api.Arg) }, 0},
		{"a ready", func(t *testing.T, s *sarc.Sarc) { ready(t, s, 0, api.Busy) }, 0},
		{"an enter that is refused", func(t *testing.T, s *sarc.Sarc) { enter(t, s, 0, api.Seq, api.Exists) }, 0},
		{"a miss", func(t *testing.T, s *sarc.Sarc) { missSeq(t, s, 1) }, 0},
		{"a miss of Rand", func(t *testing.T, s *sarc.Sarc) { miss(t, s, api.Rand, api.OK) }, 0},
		{"being told", func(t *testing.T, s *sarc.Sarc) { s.Policy(); s.Room() }, 0},
		{"to be gone and come again", func(t *testing.T, s *sarc.Sarc) { gone(t, s, 0, api.OK); come(t, s, api.Seq, 0) }, 1},
	} {
		s := made(t, 4, 4)
		come(t, s, api.Seq, 0)
		come(t, s, api.Rand, 1)
		c.do(t, s)
		if goes, ok := s.Victim(); goes != c.goes || !ok {
			t.Errorf("%s: %d %v, not %d", c.what, goes, ok, c.goes)
		}
	}
}

func TestAFrameWasUsedWhenItEnteredNotWhenItWasReady(t *testing.T) {
	s := made(t, 4, 4)
	comeHeld(t, s, api.Rand, 3)
	comeHeld(t, s, api.Seq, 2)
	hit(t, s, 3, api.Rand, api.OK) // held as it is
	ready(t, s, 3, api.OK)
	ready(t, s, 2, api.OK)
	victimIs(t, s, 2, true)
	victimIs(t, s, 3, true)
}

func TestRoom(t *testing.T) {
	s := made(t, 5, 1)
	for i, frame := range []int{3, 0, 4, 1, 2} {
		enter(t, s, frame, i%2, api.OK)
		roomIs(t, s, i)
		ready(t, s, frame, api.OK)
		roomIs(t, s, i+1)
	}
	hit(t, s, 3, api.Rand, api.OK)
	roomIs(t, s, 5)
	gone(t, s, 3, api.OK)
	roomIs(t, s, 4)
	comeHeld(t, s, api.Seq, 3)
	roomIs(t, s, 4)
	gone(t, s, 3, api.OK)
	for left := 3; left >= 0; left-- {
		s.Victim()
		roomIs(t, s, left)
	}
	victimIs(t, s, 0, false)
	roomIs(t, s, 0)
}

// P7.4: what a policy tells.

func TestPolicy(t *testing.T) {
	s := made(t, 6, 1)
	comeHeld(t, s, api.Rand, 5)
	come(t, s, api.Seq, 3, 2)
	comeHeld(t, s, api.Seq, 4)
	comeHeld(t, s, api.Rand, 0)
	hit(t, s, 5, api.Rand, api.OK)
	missSeq(t, s, 4)
	want := api.Policy{Lists: [2][]int{{4, 2, 3}, {5, 0}}, Held: []int{0, 4, 5}, Want: 1, Miss: 4, Hits: 1}
	if p := s.Policy(); !same(p, want) {
		t.Errorf("%v, not %v", p, want)
	}
}

func TestHeldIsRising(t *testing.T) {
	s := made(t, 64, 5)
	for i := range 64 {
		frame := (i * 37) % 64
		enter(t, s, frame, i%2, api.OK)
		if held := s.Policy().Held; len(held) != i+1 || !slices.IsSorted(held) || !slices.Contains(held, frame) {
			t.Errorf("behind %d: %v", frame, held)
		}
	}
}

func TestThePolicyHasMemoryOfItsOwn(t *testing.T) {
	s := made(t, 4, 2)
	come(t, s, api.Seq, 0, 1)
	comeHeld(t, s, api.Rand, 2, 3)
	before, p := s.Policy(), s.Policy()
	for _, list := range [][]int{p.Lists[0], p.Lists[1], p.Held} {
		for i := range list[:cap(list)] {
			list[:cap(list)][i] = 3
		}
	}
	if after := s.Policy(); !same(before, after) {
		t.Errorf("%v, not %v", after, before)
	}
	hit(t, s, 0, api.Rand, api.OK)
	ready(t, s, 3, api.OK)
	if !slices.Equal(before.Lists[0], []int{1, 0}) || !slices.Equal(before.Lists[1], []int{3, 2}) || !slices.Equal(before.Held, []int{2, 3}) {
		t.Errorf("what was told is %v", before)
	}
}

func TestTheShelfTellsTheSame(t *testing.T) {
	s := made(t, 4, 1)
	come(t, s, api.Seq, 0, 1)
	comeHeld(t, s, api.Rand, 3)
	p := s.Policy()
	if !slices.Equal(s.List(api.Seq), p.Lists[0]) || !slices.Equal(s.List(api.Rand), p.Lists[1]) || !slices.Equal(s.Held(), p.Held) {
		t.Errorf("%v %v %v, not %v", s.List(api.Seq), s.List(api.Rand), s.Held(), p)
	}
	if list, low, ok := s.Where(0); list != api.Seq || !low || !ok {
		t.Errorf("Where(0): %d %v %v", list, low, ok)
	}
}

func TestPoliciesAreApart(t *testing.T) {
	s, other := made(t, 3, 1), made(t, 3, 1)
	comeHeld(t, s, api.Seq, 0, 1)
	missSeq(t, s, 2)
	listsAre(t, other, nil, nil)
	heldIs(t, other)
	countsAre(t, other, 0, 0, 0)
	come(t, other, api.Rand, 1, 2)
	hit(t, other, 1, api.Rand, api.OK)
	listsAre(t, s, []int{1, 0}, nil)
	heldIs(t, s, 0, 1)
	countsAre(t, s, 2, 2, 0)
}

// P7.5: what follows.

func TestTheExample(t *testing.T) {
	s := made(t, 4, 1)
	miss(t, s, api.Seq, api.OK)
	countsAre(t, s, 1, 1, 0)
	come(t, s, api.Rand, 0, 1)
	come(t, s, api.Seq, 2)
	victimIs(t, s, 0, true)
}

func TestAsManyMissesAsFramesMakeWantAsMany(t *testing.T) {
	for frames := 1; frames <= 64; frames++ {
		for _, bottom := range []int{1, (frames + 1) / 2, frames} {
			s := made(t, frames, bottom)
			for frame := range frames {
				come(t, s, api.Seq, frame)
				countsAre(t, s, frame, uint64(frame), 0)
				miss(t, s, api.Seq, api.OK)
			}
			if p := s.Policy(); p.Want != frames {
				t.Errorf("of %d frames: Want %d", frames, p.Want)
			}
			missSeq(t, s, 100)
			if p := s.Policy(); p.Want != frames {
				t.Errorf("of %d frames: Want %d, some misses behind", frames, p.Want)
			}
		}
	}
}

// draws is a row of numbers that look as if they came by chance, and are the same ones each time.
type draws struct{ state uint64 }

func (d *draws) below(n int) int {
	d.state = d.state*6364136223846793005 + 1442695040888963407
	return int(d.state >> 33 % uint64(n))
}

// plain is a policy as the chapter's words have it: lists as they are told, who is held, and all uses, one behind the other.
type plain struct {
	frames, bottom int
	lists          [2][]int
	held           map[int]bool
	uses           []int
	want           int
	misses, hits   int
}

func (p *plain) has(frame int) bool { return frame >= 0 && frame < p.frames }

func (p *plain) where(frame int) (list, fromLast int) {
	for list, frames := range p.lists {
		if i := slices.Index(frames, frame); i >= 0 {
			return list, len(frames) - 1 - i
		}
	}
	return -1, 0
}

func (p *plain) lift(frame int) {
	for list, frames := range p.lists {
		p.lists[list] = slices.DeleteFunc(slices.Clone(frames), func(f int) bool { return f == frame })
	}
}

func (p *plain) put(frame, list int) {
	p.lift(frame)
	p.lists[list] = slices.Insert(p.lists[list], 0, frame)
	p.uses = append(p.uses, frame)
}

func (p *plain) enter(frame, list int) api.Code {
	if !p.has(frame) || list < 0 || list > 1 {
		return api.Arg
	}
	if in, _ := p.where(frame); in >= 0 {
		return api.Exists
	}
	p.put(frame, list)
	p.held[frame] = true
	return api.OK
}

func (p *plain) ready(frame int) api.Code {
	in, _ := p.where(frame)
	switch {
	case !p.has(frame):
		return api.Arg
	case in < 0:
		return api.NotFound
	case !p.held[frame]:
		return api.Busy
	}
	delete(p.held, frame)
	return api.OK
}

func (p *plain) weigh() {
	left, right := p.misses*p.bottom, p.hits*len(p.lists[0])
	if left > right && p.want < p.frames {
		p.want++
	}
	if left < right && p.want > 0 {
		p.want--
	}
	if p.misses >= 64 || p.hits >= 64 {
		p.misses, p.hits = p.misses/2, p.hits/2
	}
}

func (p *plain) hit(frame, list int) api.Code {
	if !p.has(frame) || list < 0 || list > 1 {
		return api.Arg
	}
	in, fromLast := p.where(frame)
	if in < 0 {
		return api.NotFound
	}
	if in == 1 && fromLast < p.bottom {
		p.hits++
		p.weigh()
	}
	p.put(frame, list)
	return api.OK
}

func (p *plain) miss(list int) api.Code {
	if list < 0 || list > 1 {
		return api.Arg
	}
	if list == 0 {
		p.misses++
		p.weigh()
	}
	return api.OK
}

func (p *plain) gone(frame int) api.Code {
	if !p.has(frame) {
		return api.Arg
	}
	if in, _ := p.where(frame); in < 0 {
		return api.NotFound
	}
	p.lift(frame)
	delete(p.held, frame)
	return api.OK
}

// lastUse is where in all uses a frame's last one is.
func (p *plain) lastUse(frame int) int {
	for i, used := range slices.Backward(p.uses) {
		if used == frame {
			return i
		}
	}
	return -1
}

// looked are the frames that are looked at, one a list, if it has such.
func (p *plain) looked() (frames []int) {
	for list := range p.lists {
		for _, frame := range slices.Backward(p.lists[list]) {
			if !p.held[frame] {
				frames = append(frames, frame)
				break
			}
		}
	}
	return frames
}

func (p *plain) victim() (int, bool) {
	frames := p.looked()
	if len(frames) == 0 {
		return 0, false
	}
	goes := frames[0]
	if len(frames) == 2 {
		if len(p.lists[0]) < p.bottom || len(p.lists[1]) < p.bottom {
			if p.lastUse(frames[1]) < p.lastUse(frames[0]) {
				goes = frames[1]
			}
		} else if len(p.lists[0]) <= p.want {
			goes = frames[1]
		}
	}
	p.lift(goes)
	return goes, true
}

func (p *plain) policy() api.Policy {
	all := api.Policy{Lists: p.lists, Want: p.want, Miss: uint64(p.misses), Hits: uint64(p.hits)}
	for frame := range p.frames {
		if p.held[frame] {
			all.Held = append(all.Held, frame)
		}
	}
	return all
}

func (p *plain) room() int { return len(p.lists[0]) + len(p.lists[1]) - len(p.held) }

// outcome is what a step answers.
type outcome struct {
	code  api.Code
	frame int
	there bool
}

// step does the same to both, and tells both outcomes. The taste says which list the steps are after, so that both counts get great.
func step(d *draws, s *sarc.Sarc, p *plain, taste int) (got, want outcome) {
	frame := d.below(p.frames+2) - 1
	if d.below(3) > 0 {
		frame = d.below(p.frames)
	}
	list := d.below(2)
	if d.below(40) == 0 {
		list = []int{-1, 2}[list]
	}
	switch kind := d.below(16); {
	case kind < 4:
		got.code, want.code = s.Enter(frame, list), p.enter(frame, list)
	case kind < 8:
		got.code, want.code = s.Ready(frame), p.ready(frame)
	case kind < 10 || kind < 13 && taste == 0:
		got.code, want.code = s.Hit(frame, list), p.hit(frame, list)
	case kind < 13:
		got.code, want.code = s.Miss(list), p.miss(list)
	case kind < 14:
		got.code, want.code = s.Gone(frame), p.gone(frame)
	default:
		got.frame, got.there = s.Victim()
		want.frame, want.there = p.victim()
	}
	return got, want
}

// followsIs asks for what P7.5 says.
func followsIs(t *testing.T, s *sarc.Sarc, frames int) {
	t.Helper()
	p := s.Policy()
	if p.Want < 0 || p.Want > frames || p.Miss >= api.Window || p.Hits >= api.Window {
		t.Errorf("of %d frames: Want, Miss and Hits: %d %d %d", frames, p.Want, p.Miss, p.Hits)
	}
}

// together takes steps of both, and holds them against each other.
func together(t *testing.T, run, frames, bottom, steps int, seen map[outcome]int) {
	t.Helper()
	d := &draws{state: uint64(run)}
	s, p := made(t, frames, bottom), &plain{frames: frames, bottom: bottom, held: map[int]bool{}}
	for i := range steps {
		held := p.policy().Held
		got, want := step(d, s, p, i/200%2)
		if got != want {
			t.Fatalf("run %d, step %d: %v, not %v", run, i, got, want)
		}
		if a, b := s.Policy(), p.policy(); !same(a, b) || s.Room() != p.room() {
			t.Fatalf("run %d, step %d: %v and %d, not %v and %d", run, i, a, s.Room(), b, p.room())
		}
		if got.there && slices.Contains(held, got.frame) {
			t.Fatalf("run %d, step %d: %d goes, who is held", run, i, got.frame)
		}
		followsIs(t, s, frames)
		seen[outcome{code: got.code, there: got.there}]++
	}
}

func TestBesideAPlainPolicy(t *testing.T) {
	seen := map[outcome]int{}
	for run := range 120 {
		d := &draws{state: uint64(run) << 20}
		frames := 1 + d.below(64)
		if run%3 > 0 {
			frames = 1 + d.below(8)
		}
		together(t, run, frames, 1+d.below(frames), 800, seen)
	}
	for _, want := range []outcome{{code: api.Arg}, {code: api.NotFound}, {code: api.Exists}, {code: api.Busy}, {there: true}} {
		if seen[want] < 100 {
			t.Errorf("%v came %d times", want, seen[want])
		}
	}
}
