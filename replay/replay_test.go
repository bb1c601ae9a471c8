package replay_test

import (
	"math"
	"reflect"
	"slices"
	"testing"

	"forerunner/api"
	"forerunner/ask"
	"forerunner/replay"
	"forerunner/stream"
)

func access(first, count, id int) api.Event {
	return api.Event{Kind: api.EvAccess, Block: first, Count: count, Stream: id}
}
func hit(block, list int) api.Event   { return api.Event{Kind: api.EvHit, Block: block, List: list} }
func miss(list int) api.Event         { return api.Event{Kind: api.EvMiss, List: list} }
func enter(block, list int) api.Event { return api.Event{Kind: api.EvEnter, Block: block, List: list} }
func ready(block int) api.Event       { return api.Event{Kind: api.EvReady, Block: block} }
func victim(block int) api.Event      { return api.Event{Kind: api.EvVictim, Block: block} }
func gone(block int) api.Event        { return api.Event{Kind: api.EvGone, Block: block} }
func ahead(block, id int) api.Event   { return api.Event{Kind: api.EvAhead, Block: block, Stream: id} }
func drop(block, id int) api.Event    { return api.Event{Kind: api.EvDrop, Block: block, Stream: id} }
func late(id int) api.Event           { return api.Event{Kind: api.EvLate, Stream: id} }
func waste(id int) api.Event          { return api.Event{Kind: api.EvWaste, Stream: id} }

// usual are the usual options of a disk of 30 blocks, but with so many frames, and such a bottom.
func usual(t *testing.T, frames, bottom int) api.Options {
	t.Helper()
	o, code := ask.Usual(30)
	if code != api.OK {
		t.Fatalf("Usual: %d", code)
	}
	o.Frames, o.Bottom = frames, bottom
	return o
}

func made(t *testing.T, o api.Options) *replay.Model {
	t.Helper()
	m, code := replay.New(o)
	if code != api.OK || m == nil {
		t.Fatalf("New(%v): %v %d", o, m, code)
	}
	return m
}

// happen lets events happen, all of which can be.
func happen(t *testing.T, m *replay.Model, events ...api.Event) {
	t.Helper()
	for i, ev := range events {
		if code := m.Step(ev); code != api.OK || m.Broken() {
			t.Fatalf("event %d, %+v: %d, broken: %v", i, ev, code, m.Broken())
		}
	}
}

// told is a model of a disk of 30 blocks, with so many frames, to which events happened, all of which can be.
func told(t *testing.T, frames, bottom int, events ...api.Event) *replay.Model {
	t.Helper()
	m := made(t, usual(t, frames, bottom))
	happen(t, m, events...)
	return m
}

// samePolicy tells whether policies are the same, where no list is an empty one.
func samePolicy(a, b api.Policy) bool {
	return slices.Equal(a.Lists[0], b.Lists[0]) && slices.Equal(a.Lists[1], b.Lists[1]) && slices.Equal(a.Held, b.Held) &&
		a.Want == b.Want && a.Miss == b.Miss && a.Hits == b.Hits
}

func policyIs(t *testing.T, m *replay.Model, want api.Policy) {
	t.Helper()
	if p := m.Policy(); !samePolicy(p, want) {
		t.Errorf("Policy: %v, not %v", p, want)
	}
}

func listsAre(t *testing.T, m *replay.Model, seq, rand []int) {
	t.Helper()
	if l := m.Policy().Lists; !slices.Equal(l[api.Seq], seq) || !slices.Equal(l[api.Rand], rand) {
		t.Errorf("lists: %v, not %v %v", l, seq, rand)
	}
}

func heldIs(t *testing.T, m *replay.Model, want ...int) {
	t.Helper()
	if held := m.Policy().Held; !slices.Equal(held, want) {
		t.Errorf("Held: %v, not %v", held, want)
	}
}

func streamsAre(t *testing.T, m *replay.Model, want ...api.Stream) {
	t.Helper()
	if s := m.Streams(); !slices.Equal(s, want) {
		t.Errorf("Streams: %v, not %v", s, want)
	}
}

// brokenIs tells that a model is broken, and all that it has to be then.
func brokenIs(t *testing.T, m *replay.Model) {
	t.Helper()
	if !m.Broken() {
		t.Error("it isn't broken")
	}
	policyIs(t, m, api.Policy{})
	streamsAre(t, m)
	// The last access of a disk, a miss and a drop could be, whatever was ahead.
	for _, ev := range []api.Event{access(29, 1, 0), miss(api.Rand), drop(0, 1), late(1), {}} {
		if code := m.Step(ev); code != api.Malformed {
			t.Errorf("Step(%+v) of a broken model: %d", ev, code)
		}
	}
	if !m.Broken() {
		t.Error("it is whole again")
	}
}

// canNot tells that an event can't be, behind the others, which can.
func canNot(t *testing.T, frames, bottom int, ev api.Event, events ...api.Event) {
	t.Helper()
	m := told(t, frames, bottom, events...)
	if code := m.Step(ev); code != api.Malformed {
		t.Errorf("Step(%+v) behind %+v: %d", ev, events, code)
	}
	brokenIs(t, m)
}

// can tells that an event can be, behind the others.
func can(t *testing.T, frames, bottom int, ev api.Event, events ...api.Event) {
	t.Helper()
	m := told(t, frames, bottom, events...)
	if code := m.Step(ev); code != api.OK || m.Broken() {
		t.Errorf("Step(%+v) behind %+v: %d", ev, events, code)
	}
}

// notLists are numbers that no list has.
func notLists() []int { return []int{-1, 2, 3, math.MaxInt, math.MinInt} }

// notBlocks are numbers that no block of a disk of 30 has.
func notBlocks() []int { return []int{-1, 30, 31, 256, math.MaxInt, math.MinInt} }

// reads are what the accesses to 5, 6, 7 come to: nobody's; stream 1, with 7 ahead; stream 1, with 8 and 9.
func reads() []api.Event { return []api.Event{access(5, 1, 0), access(6, 1, 1), access(7, 1, 1)} }

// P19.1: New, Step, Broken.

func TestNewOfOptionsThatMayNotBe(t *testing.T) {
	good := usual(t, 4, 2)
	for field := range reflect.TypeOf(good).NumField() {
		for _, n := range []int{-1, 257, math.MaxInt, math.MinInt} {
			o := good
			reflect.ValueOf(&o).Elem().Field(field).SetInt(int64(n))
			if m, code := replay.New(o); m != nil || code != api.Arg {
				t.Errorf("New(%+v): %v %d", o, m, code)
			}
			if m, code := replay.Run(o, []api.Event{miss(api.Seq)}); m != nil || code != api.Arg {
				t.Errorf("Run(%+v): %v %d", o, m, code)
			}
		}
	}
	o := good
	o.Bottom = 5
	if m, code := replay.New(o); m != nil || code != api.Arg {
		t.Errorf("a bottom above the frames: %v %d", m, code)
	}
	if m, code := replay.New(api.Options{}); m != nil || code != api.Arg {
		t.Errorf("no options: %v %d", m, code)
	}
}

// TestNewOfTheLeastAndTheGreatest: options at both ends make models.
func TestNewOfTheLeastAndTheGreatest(t *testing.T) {
	least := api.Options{Blocks: 1, Frames: 1, Bottom: 1, Demand: 1, Out: 1, Span: 1, Tries: 1, Requests: 1, Waiters: 1, Streams: 1, Table: 1, Life: 1, Degree: 1}
	greatest := api.Options{Blocks: 256, Frames: 64, Bottom: 64, Demand: 64, Ahead: 64, Out: 16, Span: 8, Tries: 8, Requests: 16, Waiters: 64, Streams: 16, Table: 32, Life: 64, Degree: 16}
	happen(t, made(t, least), access(0, 1, 0), miss(api.Rand), enter(0, api.Rand), ready(0), hit(0, api.Seq), victim(0))
	m := made(t, greatest)
	for block := range 64 {
		happen(t, m, enter(255-block, api.Rand))
	}
	if code := m.Step(enter(0, api.Rand)); code != api.Malformed {
		t.Errorf("a frame more than there are: %d", code)
	}
}

func TestAtFirstThereIsNothing(t *testing.T) {
	m := made(t, usual(t, 4, 2))
	if m.Broken() {
		t.Error("it is broken")
	}
	policyIs(t, m, api.Policy{})
	streamsAre(t, m)
}

func TestTheExample(t *testing.T) {
	m := told(t, 4, 2, enter(5, api.Rand), ready(5), victim(5))
	policyIs(t, m, api.Policy{})
	if code := m.Step(victim(5)); code != api.Malformed {
		t.Errorf("once more: %d", code)
	}
	brokenIs(t, m)
}

func TestAccess(t *testing.T) {
	m := told(t, 4, 2, reads()...)
	streamsAre(t, m, api.Stream{ID: 1, Flow: api.Flow{Next: 8, Ahead: 10, P: 2}, Used: 3})
	happen(t, m, access(20, 3, 0), access(23, 4, 2), access(8, 1, 1))
	streamsAre(t, m,
		api.Stream{ID: 1, Flow: api.Flow{Next: 9, Ahead: 10, P: 2}, Used: 6},
		api.Stream{ID: 2, Flow: api.Flow{Next: 27, Ahead: 28, P: 1}, Used: 5})
	policyIs(t, m, api.Policy{})
}

func TestAccessThatCanNotBe(t *testing.T) {
	for _, id := range []int{1, 2, -1, math.MaxInt, math.MinInt} {
		canNot(t, 4, 2, access(5, 1, id))
	}
	for _, id := range []int{0, 2, -1, math.MaxInt} {
		canNot(t, 4, 2, access(6, 1, id), access(5, 1, 0))
		canNot(t, 4, 2, access(8, 1, id), reads()...)
	}
	canNot(t, 4, 2, access(5, 1, 1), reads()...)
	for _, ev := range []api.Event{
		access(30, 1, 0), access(29, 2, 0), access(-1, 1, 0), access(5, 0, 0), access(5, 9, 0), access(5, -1, 0), access(0, 30, 0),
		access(math.MaxInt, 8, 0), access(math.MaxInt, math.MaxInt, 0), access(math.MinInt, 1, 0), access(0, math.MinInt, 0),
	} {
		canNot(t, 4, 2, ev)
	}
	can(t, 4, 2, access(29, 1, 0))
	can(t, 4, 2, access(22, 8, 0))
	can(t, 4, 2, access(0, 8, 0))
}

func TestHit(t *testing.T) {
	m := told(t, 4, 2, enter(5, api.Rand), enter(0, api.Rand), enter(9, api.Seq))
	happen(t, m, hit(5, api.Rand))
	listsAre(t, m, []int{9}, []int{5, 0})
	happen(t, m, hit(0, api.Seq))
	listsAre(t, m, []int{0, 9}, []int{5})
	happen(t, m, hit(9, api.Rand))
	policyIs(t, m, api.Policy{Lists: [2][]int{{0}, {9, 5}}, Held: []int{0, 5, 9}, Hits: 2})
}

func TestHitThatCanNotBe(t *testing.T) {
	for _, list := range notLists() {
		canNot(t, 4, 2, hit(5, list), enter(5, api.Rand))
	}
	canNot(t, 4, 2, hit(0, api.Rand))
	canNot(t, 4, 2, hit(4, api.Rand), enter(5, api.Rand))
	canNot(t, 4, 2, hit(0, api.Seq), enter(5, api.Rand))
	canNot(t, 4, 2, hit(5, api.Rand), enter(5, api.Rand), gone(5))
	canNot(t, 4, 2, hit(5, api.Rand), enter(5, api.Rand), ready(5), victim(5))
	for _, block := range notBlocks() {
		canNot(t, 4, 2, hit(block, api.Rand), enter(5, api.Rand))
	}
}

func TestMiss(t *testing.T) {
	m := told(t, 4, 2, miss(api.Seq), miss(api.Rand), miss(api.Seq))
	policyIs(t, m, api.Policy{Want: 2, Miss: 2})
	for _, list := range notLists() {
		canNot(t, 4, 2, miss(list))
	}
}

// TestMissOfAnyBlock: a miss has no block, so that whatever stands there may.
func TestMissOfAnyBlock(t *testing.T) {
	for _, block := range append(notBlocks(), 0, 5, 29) {
		can(t, 4, 2, api.Event{Kind: api.EvMiss, Block: block}, enter(5, api.Rand))
	}
}

func TestEnter(t *testing.T) {
	m := told(t, 4, 2, enter(29, api.Rand), enter(0, api.Seq), enter(7, api.Rand), enter(3, api.Seq))
	policyIs(t, m, api.Policy{Lists: [2][]int{{3, 0}, {7, 29}}, Held: []int{0, 3, 7, 29}})
}

func TestEnterThatCanNotBe(t *testing.T) {
	for _, block := range notBlocks() {
		canNot(t, 4, 2, enter(block, api.Rand))
	}
	for _, list := range notLists() {
		canNot(t, 4, 2, enter(5, list))
	}
	canNot(t, 4, 2, enter(5, api.Rand), enter(5, api.Rand))
	canNot(t, 4, 2, enter(5, api.Seq), enter(5, api.Rand), ready(5))
	canNot(t, 2, 1, enter(7, api.Seq), enter(5, api.Rand), enter(6, api.Rand))
	canNot(t, 1, 1, enter(5, api.Seq), enter(5, api.Seq))
	can(t, 2, 1, enter(7, api.Seq), enter(5, api.Rand))
}

// TestWhatWentMakesRoom: whichever block goes, and whichever way, there is room for another one, or for the same again.
func TestWhatWentMakesRoom(t *testing.T) {
	for leaves := range 3 {
		for comes := range 4 {
			m := told(t, 3, 1, enter(0, api.Rand), enter(1, api.Rand), enter(2, api.Rand), gone(leaves))
			if comes != leaves && comes < 3 {
				continue
			}
			happen(t, m, enter(comes, api.Seq), hit(comes, api.Seq), ready(comes))
			listsAre(t, m, []int{comes}, slices.DeleteFunc([]int{2, 1, 0}, func(b int) bool { return b == leaves }))
			if code := m.Step(enter(9, api.Rand)); code != api.Malformed {
				t.Errorf("%d leaves, %d comes: there is room for one more: %d", leaves, comes, code)
			}
		}
	}
	m := told(t, 1, 1, enter(4, api.Rand), ready(4), victim(4), enter(8, api.Rand), ready(8), victim(8), enter(4, api.Seq))
	listsAre(t, m, []int{4}, nil)
	heldIs(t, m, 4)
}

func TestReady(t *testing.T) {
	m := told(t, 4, 2, enter(5, api.Rand), enter(0, api.Seq), ready(5))
	heldIs(t, m, 0)
	happen(t, m, ready(0))
	heldIs(t, m)
	listsAre(t, m, []int{0}, []int{5})
}

func TestReadyThatCanNotBe(t *testing.T) {
	canNot(t, 4, 2, ready(0))
	canNot(t, 4, 2, ready(5), enter(5, api.Rand), ready(5))
	canNot(t, 4, 2, ready(4), enter(5, api.Rand))
	canNot(t, 4, 2, ready(5), enter(5, api.Rand), gone(5))
	for _, block := range notBlocks() {
		canNot(t, 4, 2, ready(block), enter(5, api.Rand))
	}
}

func TestVictim(t *testing.T) {
	m := told(t, 4, 1, miss(api.Seq), enter(9, api.Rand), enter(0, api.Rand), enter(4, api.Seq), ready(9), ready(0), ready(4))
	happen(t, m, victim(9))
	listsAre(t, m, []int{4}, []int{0})
	happen(t, m, enter(3, api.Seq), victim(4))
	listsAre(t, m, []int{3}, []int{0})
	happen(t, m, victim(0))
	listsAre(t, m, []int{3}, nil)
	if code := m.Step(victim(3)); code != api.Malformed {
		t.Errorf("a held block is a victim: %d", code)
	}
}

func TestVictimThatCanNotBe(t *testing.T) {
	some := []api.Event{enter(9, api.Rand), enter(0, api.Rand), enter(4, api.Rand), ready(9), ready(0)}
	can(t, 4, 1, victim(9), some...)
	for _, block := range append(notBlocks(), 0, 4, 1, 10) {
		canNot(t, 4, 1, victim(block), some...)
	}
	// Where nobody goes, 0 is nobody either.
	canNot(t, 4, 1, victim(0))
	canNot(t, 4, 1, victim(0), enter(0, api.Rand))
	canNot(t, 4, 1, victim(5), enter(5, api.Seq))
}

func TestGone(t *testing.T) {
	m := told(t, 4, 2, enter(5, api.Rand), enter(0, api.Seq), enter(7, api.Rand), ready(5), gone(5))
	policyIs(t, m, api.Policy{Lists: [2][]int{{0}, {7}}, Held: []int{0, 7}})
	happen(t, m, gone(0))
	policyIs(t, m, api.Policy{Lists: [2][]int{{}, {7}}, Held: []int{7}})
}

func TestGoneThatCanNotBe(t *testing.T) {
	canNot(t, 4, 2, gone(0))
	canNot(t, 4, 2, gone(4), enter(5, api.Rand))
	canNot(t, 4, 2, gone(5), enter(5, api.Rand), gone(5))
	canNot(t, 4, 2, gone(5), enter(5, api.Rand), ready(5), victim(5))
	for _, block := range notBlocks() {
		canNot(t, 4, 2, gone(block), enter(5, api.Rand))
	}
}

func TestAhead(t *testing.T) {
	m := told(t, 4, 2, reads()...)
	p, s := m.Policy(), m.Streams()
	happen(t, m, ahead(9, 1), ahead(8, 1), ahead(9, 1))
	policyIs(t, m, p)
	streamsAre(t, m, s...)
}

func TestAheadThatCanNotBe(t *testing.T) {
	for _, block := range append(notBlocks(), 0, 6, 7, 10, 29) {
		canNot(t, 4, 2, ahead(block, 1), reads()...)
	}
	for _, id := range []int{0, 2, -1, math.MaxInt, math.MinInt} {
		canNot(t, 4, 2, ahead(8, id), reads()...)
	}
	// Nothing was accessed yet; nobody's access asks for nothing; the one that asked isn't the last any more; nor does each of a stream's.
	canNot(t, 4, 2, ahead(0, 0))
	canNot(t, 4, 2, ahead(6, 0), access(5, 1, 0))
	canNot(t, 4, 2, ahead(0, 0), access(5, 1, 0))
	canNot(t, 4, 2, ahead(8, 1), append(reads(), access(20, 1, 0))...)
	canNot(t, 4, 2, ahead(7, 1), reads()...)
	canNot(t, 4, 2, ahead(9, 1), append(reads(), access(8, 1, 1))...)
	canNot(t, 4, 2, ahead(10, 1), append(reads(), access(8, 1, 1))...)
	can(t, 4, 2, ahead(12, 1), append(reads(), access(8, 1, 1), access(9, 1, 1))...)
	// Two streams: who asked is the one that the last access found.
	two := []api.Event{access(5, 1, 0), access(20, 1, 0), access(6, 1, 1), access(21, 1, 2)}
	can(t, 4, 2, ahead(22, 2), two...)
	canNot(t, 4, 2, ahead(22, 1), two...)
	canNot(t, 4, 2, ahead(7, 1), two...)
}

// TestAheadOutlivesWhatIsNoAccess: who asked last isn't forgotten over another event.
func TestAheadOutlivesWhatIsNoAccess(t *testing.T) {
	between := []api.Event{miss(api.Seq), enter(5, api.Seq), hit(5, api.Rand), ready(5), victim(5), drop(9, 1), late(1), waste(1)}
	can(t, 4, 2, ahead(9, 1), append(reads(), between...)...)
}

func TestDrop(t *testing.T) {
	m := told(t, 4, 2, append(reads(), enter(5, api.Rand))...)
	p, s := m.Policy(), m.Streams()
	happen(t, m, drop(0, 1), drop(29, 1), drop(5, 2), drop(8, math.MaxInt))
	policyIs(t, m, p)
	streamsAre(t, m, s...)
	for _, block := range notBlocks() {
		canNot(t, 4, 2, drop(block, 1))
	}
	for _, id := range []int{0, -1, math.MinInt} {
		canNot(t, 4, 2, drop(5, id))
	}
}

func TestLateAndWaste(t *testing.T) {
	m := told(t, 4, 2, append(reads(), late(1))...)
	streamsAre(t, m, api.Stream{ID: 1, Flow: api.Flow{Next: 8, Ahead: 10, P: 2, G: 1}, Used: 3})
	happen(t, m, late(2), waste(2), waste(math.MaxInt), late(math.MaxInt))
	streamsAre(t, m, api.Stream{ID: 1, Flow: api.Flow{Next: 8, Ahead: 10, P: 2, G: 1}, Used: 3})
	happen(t, m, waste(1))
	streamsAre(t, m, api.Stream{ID: 1, Flow: api.Flow{Next: 8, Ahead: 10, P: 1}, Used: 3})
	happen(t, made(t, usual(t, 4, 2)), late(1), waste(1))
	for _, id := range []int{0, -1, math.MinInt} {
		canNot(t, 4, 2, late(id), reads()...)
		canNot(t, 4, 2, waste(id), reads()...)
	}
}

func TestAnotherKindCanNotBe(t *testing.T) {
	for _, kind := range []int{0, 12, 13, -1, -11, 1 << 32, 1<<32 + 3, math.MaxInt, math.MinInt} {
		canNot(t, 4, 2, api.Event{Kind: kind})
		canNot(t, 4, 2, api.Event{Kind: kind, Block: 8, List: api.Rand, Count: 1, Stream: 1}, reads()...)
	}
}

// TestWhatElseAnEventSaysDoesNotMatter: fields that a kind doesn't speak of may have anything in them.
func TestWhatElseAnEventSaysDoesNotMatter(t *testing.T) {
	speaks := map[int][4]bool{ // of Block, List, Count, Stream
		api.EvAccess: {true, false, true, true}, api.EvHit: {true, true, false, false}, api.EvMiss: {false, true, false, false},
		api.EvEnter: {true, true, false, false}, api.EvReady: {true, false, false, false}, api.EvVictim: {true, false, false, false},
		api.EvGone: {true, false, false, false}, api.EvAhead: {true, false, false, true}, api.EvDrop: {true, false, false, true},
		api.EvLate: {false, false, false, true}, api.EvWaste: {false, false, false, true},
	}
	events := append(reads(), ahead(8, 1), miss(api.Seq), enter(8, api.Seq), enter(3, api.Rand), hit(3, api.Rand), ready(3), late(1), waste(1), drop(9, 1), gone(8), victim(3))
	for _, n := range []int{-1, 1, 2, 17, math.MaxInt, math.MinInt} {
		plain, filled := made(t, usual(t, 4, 2)), made(t, usual(t, 4, 2))
		for _, ev := range events {
			full := ev
			for i, field := range []*int{&full.Block, &full.List, &full.Count, &full.Stream} {
				if !speaks[ev.Kind][i] {
					*field = n
				}
			}
			happen(t, plain, ev)
			happen(t, filled, full)
			policyIs(t, filled, plain.Policy())
			streamsAre(t, filled, plain.Streams()...)
		}
	}
}

func TestModelsAreApart(t *testing.T) {
	o := usual(t, 2, 1)
	a, b := made(t, o), made(t, o)
	happen(t, a, enter(5, api.Rand), enter(6, api.Rand), access(5, 1, 0), access(6, 1, 1))
	policyIs(t, b, api.Policy{})
	streamsAre(t, b)
	if code := b.Step(gone(5)); code != api.Malformed {
		t.Errorf("a block of another model goes: %d", code)
	}
	brokenIs(t, b)
	if a.Broken() {
		t.Error("both are broken")
	}
	listsAre(t, a, nil, []int{6, 5})
}

// TestTheOptionsAreTheModels: each option that a model leans on says what it says.
func TestTheOptionsAreTheModels(t *testing.T) {
	o := usual(t, 4, 2)
	o.Streams = 1
	m := made(t, o)
	happen(t, m, access(0, 1, 0), access(10, 1, 0), access(1, 1, 1), access(11, 1, 2))
	streamsAre(t, m, api.Stream{ID: 2, Flow: api.Flow{Next: 12, Ahead: 13, P: 1}, Used: 4})

	o = usual(t, 4, 2)
	o.Table = 1
	happen(t, made(t, o), access(0, 1, 0), access(10, 1, 0), access(1, 1, 0))
	o.Table = 2
	happen(t, made(t, o), access(0, 1, 0), access(10, 1, 0), access(1, 1, 1))

	o = usual(t, 4, 2)
	o.Life = 1
	happen(t, made(t, o), access(0, 1, 0), access(10, 1, 0), access(1, 1, 0))
	o.Life = 2
	happen(t, made(t, o), access(0, 1, 0), access(10, 1, 0), access(1, 1, 1))

	o = usual(t, 4, 2)
	o.Degree = 1
	m = made(t, o)
	happen(t, m, access(0, 1, 0), access(1, 1, 1), access(2, 1, 1), ahead(3, 1))
	if code := m.Step(ahead(4, 1)); code != api.Malformed {
		t.Errorf("more than the degree are asked for ahead: %d", code)
	}

	// A bottom of one counts the last of Rand alone, one of two both.
	for bottom := 1; bottom <= 2; bottom++ {
		m = told(t, 4, bottom, enter(5, api.Rand), enter(6, api.Rand), hit(6, api.Rand))
		policyIs(t, m, api.Policy{Lists: [2][]int{{}, {6, 5}}, Held: []int{5, 6}, Hits: uint64(bottom - 1)})
	}
}

// P19.2: Policy, Streams.

func TestHeldIsByRisingBlocks(t *testing.T) {
	m := told(t, 5, 2, enter(20, api.Rand), enter(3, api.Seq), enter(11, api.Rand), enter(0, api.Seq), enter(29, api.Rand))
	heldIs(t, m, 0, 3, 11, 20, 29)
	happen(t, m, ready(11), gone(20), enter(1, api.Rand))
	heldIs(t, m, 0, 1, 3, 29)
	listsAre(t, m, []int{0, 3}, []int{1, 29, 11})
}

func TestPolicyTellsTheCounts(t *testing.T) {
	m := told(t, 3, 1)
	for range 5 {
		happen(t, m, miss(api.Seq))
	}
	policyIs(t, m, api.Policy{Want: 3, Miss: 5})
	happen(t, m, enter(9, api.Rand), enter(8, api.Seq), enter(7, api.Seq))
	for range 3 {
		happen(t, m, hit(9, api.Rand))
	}
	// 5 times 1 is held against 2, 4 and 6.
	policyIs(t, m, api.Policy{Lists: [2][]int{{7, 8}, {9}}, Held: []int{7, 8, 9}, Want: 2, Miss: 5, Hits: 3})
}

func TestWhatIsToldIsMemoryOfItsOwn(t *testing.T) {
	m := told(t, 4, 2, append(reads(), enter(7, api.Seq), enter(5, api.Rand), ready(5))...)
	p, s := m.Policy(), m.Streams()
	again, streams := m.Policy(), m.Streams()
	for _, l := range [][]int{again.Lists[0], again.Lists[1], again.Held} {
		for i := range l {
			l[i] = 99
		}
		_ = append(l, 98)
	}
	streams[0] = api.Stream{}
	policyIs(t, m, p)
	streamsAre(t, m, s...)
	happen(t, m, victim(5), enter(9, api.Seq), hit(7, api.Rand), access(8, 1, 1))
	if !samePolicy(p, api.Policy{Lists: [2][]int{{7}, {5}}, Held: []int{7}}) || s[0].Flow.Next != 8 {
		t.Errorf("what was told changes with the model: %v %v", p, s)
	}
}

func TestTellingChangesNothing(t *testing.T) {
	m := told(t, 4, 2, append(reads(), enter(7, api.Seq), enter(5, api.Rand), ready(5))...)
	p, s := m.Policy(), m.Streams()
	for range 3 {
		policyIs(t, m, p)
		streamsAre(t, m, s...)
		if m.Broken() {
			t.Error("it is broken")
		}
	}
	happen(t, m, ahead(9, 1), victim(5))
}

// P19.3: Run.

func TestRun(t *testing.T) {
	o := usual(t, 4, 2)
	events := append(reads(), miss(api.Seq), enter(7, api.Seq), enter(5, api.Rand), ready(5), late(1))
	for n := range len(events) + 1 {
		m, code := replay.Run(o, events[:n])
		if code != api.OK || m == nil || m.Broken() {
			t.Fatalf("Run of %d events: %v %d", n, m, code)
		}
		stepped := told(t, 4, 2, events[:n]...)
		policyIs(t, m, stepped.Policy())
		streamsAre(t, m, stepped.Streams()...)
	}
	m, _ := replay.Run(o, events)
	happen(t, m, victim(5), access(8, 1, 1))
	if m, code := replay.Run(o, nil); code != api.OK || m == nil || m.Broken() {
		t.Errorf("Run of no event: %v %d", m, code)
	}
}

func TestRunOfWhatCanNotBe(t *testing.T) {
	o := usual(t, 4, 2)
	events := append(reads(), miss(api.Seq), enter(7, api.Seq), ready(7))
	for at := range len(events) + 1 {
		m, code := replay.Run(o, slices.Insert(slices.Clone(events), at, ready(9)))
		if code != api.Malformed || m == nil {
			t.Fatalf("the event at %d can't be: %v %d", at, m, code)
		}
		brokenIs(t, m)
	}
}

func TestRunKeepsNothing(t *testing.T) {
	o := usual(t, 4, 2)
	events := append(reads(), enter(7, api.Seq), ready(7))
	kept := slices.Clone(events)
	m, _ := replay.Run(o, events)
	if !slices.Equal(events, kept) {
		t.Errorf("what was handed in is changed: %v", events)
	}
	clear(events)
	listsAre(t, m, []int{7}, nil)
	happen(t, m, ahead(9, 1), victim(7))
}

// P19.4: what follows.

// plain is a model as the chapter's words have it: lists of blocks, at which step each was used last, and a tracker.
type plain struct {
	o       api.Options
	lists   [2][]int
	held    map[int]bool
	used    map[int]int
	steps   int
	want    int
	miss    uint64
	hits    uint64
	tracker *stream.Tracker
	last    api.Found
}

func newPlain(o api.Options) *plain {
	tracker, _ := stream.New(o.Streams, o.Table, o.Life, o.Degree, o.Blocks)
	return &plain{o: o, held: map[int]bool{}, used: map[int]int{}, tracker: tracker}
}

// where is the list in which a block lies, -1 if in none, and how many lie behind it.
func (p *plain) where(block int) (list, behind int) {
	for list, blocks := range p.lists {
		if at := slices.Index(blocks, block); at >= 0 {
			return list, len(blocks) - 1 - at
		}
	}
	return -1, 0
}

func (p *plain) take(block int) {
	for list := range p.lists {
		p.lists[list] = slices.DeleteFunc(p.lists[list], func(b int) bool { return b == block })
	}
}

func (p *plain) leave(block int) {
	p.take(block)
	delete(p.held, block)
	delete(p.used, block)
}

func (p *plain) put(block, list int) {
	p.take(block)
	p.lists[list] = slices.Insert(p.lists[list], 0, block)
	p.used[block] = p.steps
}

func (p *plain) weigh() {
	left, right := p.miss*uint64(p.o.Bottom), p.hits*uint64(len(p.lists[0]))
	if left > right && p.want < p.o.Frames {
		p.want++
	}
	if left < right && p.want > 0 {
		p.want--
	}
	if p.miss >= 64 || p.hits >= 64 {
		p.miss, p.hits = p.miss/2, p.hits/2
	}
}

// goes is the block that is to go, -1 if none can.
func (p *plain) goes() int {
	last := [2]int{-1, -1}
	for list, blocks := range p.lists {
		for _, block := range blocks {
			if !p.held[block] {
				last[list] = block
			}
		}
	}
	short := len(p.lists[0]) < p.o.Bottom || len(p.lists[1]) < p.o.Bottom
	switch {
	case last[0] < 0:
		return last[1]
	case last[1] < 0:
		return last[0]
	case short && p.used[last[0]] < p.used[last[1]]:
		return last[0]
	case short:
		return last[1]
	case len(p.lists[0]) > p.want:
		return last[0]
	}
	return last[1]
}

// may tells whether an event can be, of all that is told by the model as it is. An access is tried by the step itself.
func (p *plain) may(ev api.Event) bool {
	list, _ := p.where(ev.Block)
	there := ev.Block >= 0 && ev.Block < p.o.Blocks
	isList := ev.List == 0 || ev.List == 1
	switch ev.Kind {
	case api.EvAccess:
		return true
	case api.EvHit:
		return list >= 0 && isList
	case api.EvMiss:
		return isList
	case api.EvEnter:
		return there && list < 0 && isList && len(p.lists[0])+len(p.lists[1]) < p.o.Frames
	case api.EvReady:
		return p.held[ev.Block]
	case api.EvVictim:
		return p.goes() >= 0 && p.goes() == ev.Block
	case api.EvGone:
		return list >= 0
	case api.EvAhead:
		run := p.last.Ahead
		return ev.Stream == p.last.Stream && slices.Contains(blocksOf(run), ev.Block)
	case api.EvDrop:
		return there && ev.Stream >= 1
	case api.EvLate, api.EvWaste:
		return ev.Stream >= 1
	}
	return false
}

func blocksOf(run api.Run) (blocks []int) {
	for i := range run.Count {
		blocks = append(blocks, run.First+i)
	}
	return blocks
}

func (p *plain) step(ev api.Event) bool {
	if !p.may(ev) {
		return false
	}
	p.steps++
	switch ev.Kind {
	case api.EvAccess:
		found, code := p.tracker.Access(ev.Block, ev.Count)
		p.last = found
		return code == api.OK && found.Stream == ev.Stream
	case api.EvHit:
		if list, behind := p.where(ev.Block); list == 1 && behind < p.o.Bottom {
			p.hits++
			p.weigh()
		}
		p.put(ev.Block, ev.List)
	case api.EvMiss:
		if ev.List == 0 {
			p.miss++
			p.weigh()
		}
	case api.EvEnter:
		p.put(ev.Block, ev.List)
		p.held[ev.Block] = true
	case api.EvReady:
		delete(p.held, ev.Block)
	case api.EvVictim, api.EvGone:
		p.leave(ev.Block)
	case api.EvLate:
		p.tracker.Late(ev.Stream)
	case api.EvWaste:
		p.tracker.Waste(ev.Stream)
	}
	return true
}

func (p *plain) policy() api.Policy {
	held := []int{}
	for block := range p.o.Blocks {
		if p.held[block] {
			held = append(held, block)
		}
	}
	return api.Policy{Lists: [2][]int{slices.Clone(p.lists[0]), slices.Clone(p.lists[1])}, Held: held, Want: p.want, Miss: p.miss, Hits: p.hits}
}

// draws are numbers from anywhere, the same ones in each run.
type draws uint64

func (d *draws) below(n int) int {
	*d = *d*6364136223846793005 + 1442695040888963407
	return int(uint64(*d>>33) % uint64(n))
}

// finds is the stream that an access would find, told by the streams and what is expected.
func (p *plain) finds(first int) int {
	found, used := 0, -1
	greatest := 0
	for _, s := range p.tracker.Streams() {
		if s.Flow.Next == first && s.Used > used {
			found, used = s.ID, s.Used
		}
		greatest = max(greatest, s.ID)
	}
	if found > 0 {
		return found
	}
	for _, e := range p.tracker.Expected() {
		if e.Next == first && e.Age < p.o.Life {
			return greatest + 1
		}
	}
	return 0
}

// likely is an event that often can be.
func likely(d *draws, p *plain, reader []int) api.Event {
	ev := api.Event{Kind: 1 + d.below(11), Block: d.below(p.o.Blocks), List: d.below(2), Count: 1 + d.below(2), Stream: 1 + d.below(4)}
	in := slices.Concat(p.lists[0], p.lists[1])
	switch ev.Kind {
	case api.EvAccess:
		at := d.below(len(reader))
		ev.Count = 1 + d.below(min(2, p.o.Blocks))
		ev.Block = min(reader[at], p.o.Blocks-ev.Count)
		reader[at] = (ev.Block + ev.Count) % p.o.Blocks
		ev.Stream = p.finds(ev.Block)
	case api.EvVictim:
		ev.Block = max(p.goes(), 0)
	case api.EvHit, api.EvReady, api.EvGone:
		if len(in) > 0 {
			ev.Block = in[d.below(len(in))]
		}
	case api.EvAhead:
		ev.Stream = p.last.Stream
		ev.Block = p.last.Ahead.First + d.below(max(p.last.Ahead.Count, 1))
	}
	return ev
}

// spoil changes a field of an event.
func spoil(d *draws, ev api.Event) api.Event {
	n := []int{-1, 0, 1, 2, 3, 9, 30, math.MaxInt, math.MinInt}[d.below(9)]
	*[]*int{&ev.Kind, &ev.Block, &ev.List, &ev.Count, &ev.Stream}[d.below(5)] = n
	return ev
}

// followsIs tells what follows: a held block lies in a list, each block in one at most, and there are no more than frames.
func followsIs(t *testing.T, m *replay.Model, o api.Options) {
	t.Helper()
	p := m.Policy()
	in := slices.Sorted(slices.Values(slices.Concat(p.Lists[0], p.Lists[1])))
	if len(slices.Compact(slices.Clone(in))) != len(in) || len(in) > o.Frames {
		t.Errorf("lists: %v, of %d frames", p.Lists, o.Frames)
	}
	for _, block := range p.Held {
		if !slices.Contains(in, block) {
			t.Errorf("%d is held, but not in: %v", block, p)
		}
	}
}

// together lets the same events happen to a model and to a plain one, till one can't be or there were enough, and counts those that could be, by their kinds, and those that couldn't.
func together(t *testing.T, run int, could, not map[int]int) {
	d := draws(run + 1)
	o := api.Options{
		Blocks: 1 + d.below(30), Frames: 1 + d.below(6), Demand: 1, Out: 1, Span: 1, Tries: 1, Requests: 1, Waiters: 1,
		Streams: 1 + d.below(3), Table: 1 + d.below(4), Life: 1 + d.below(6), Degree: 1 + d.below(5),
	}
	o.Bottom = 1 + d.below(o.Frames)
	m, p, reader := made(t, o), newPlain(o), make([]int, 3)
	var all []api.Event
	for range 200 {
		ev := likely(&d, p, reader)
		for try := 0; try < 20 && !p.may(ev); try++ {
			ev = likely(&d, p, reader)
		}
		if d.below(60) == 0 {
			ev = spoil(&d, ev)
		}
		all = append(all, ev)
		code, can := m.Step(ev), p.step(ev)
		if (code == api.OK) != can || m.Broken() == can {
			t.Fatalf("run %d, %+v: event %d, %+v: %d, but it can be: %v", run, o, len(all)-1, ev, code, can)
		}
		if !can {
			not[ev.Kind]++
			brokenIs(t, m)
			return
		}
		could[ev.Kind]++
		followsIs(t, m, o)
		if got, want := m.Policy(), p.policy(); !samePolicy(got, want) {
			t.Fatalf("run %d, event %d, %+v: %v, not %v", run, len(all)-1, ev, got, want)
		}
		if got, want := m.Streams(), p.tracker.Streams(); !slices.Equal(got, want) {
			t.Fatalf("run %d, event %d, %+v: %v, not %v", run, len(all)-1, ev, got, want)
		}
	}
	again, code := replay.Run(o, all)
	if code != api.OK || !samePolicy(again.Policy(), m.Policy()) || !slices.Equal(again.Streams(), m.Streams()) {
		t.Errorf("run %d: models to which the same happened aren't alike: %d", run, code)
	}
}

func TestBesideAPlainModel(t *testing.T) {
	could, not := map[int]int{}, map[int]int{}
	for run := range 1500 {
		together(t, run, could, not)
	}
	for kind := api.EvAccess; kind <= api.EvWaste; kind++ {
		if could[kind] < 100 || not[kind] < 5 {
			t.Errorf("kind %d: %d could be, %d couldn't", kind, could[kind], not[kind])
		}
	}
}

func TestAHeldBlockIsNoVictim(t *testing.T) {
	m := told(t, 3, 1, enter(5, api.Rand), enter(6, api.Rand), enter(7, api.Rand), ready(7), victim(7))
	if code := m.Step(victim(5)); code != api.Malformed {
		t.Errorf("a held one: %d", code)
	}
	m = told(t, 3, 1, enter(5, api.Rand), enter(6, api.Rand), ready(6), hit(5, api.Rand), victim(6))
	heldIs(t, m, 5)
}

// TestWhatWasHeldIsHeldAnew: a block that went held, and comes again, is held anew, and ready just once.
func TestWhatWasHeldIsHeldAnew(t *testing.T) {
	m := told(t, 2, 1, enter(5, api.Rand), ready(5), gone(5), enter(6, api.Rand))
	heldIs(t, m, 6)
	happen(t, m, ready(6), enter(5, api.Seq))
	heldIs(t, m, 5)
}
