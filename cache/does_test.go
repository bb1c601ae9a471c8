package cache_test

import (
	"slices"
	"testing"

	"forerunner/api"
	"forerunner/cache"
)

// narrow lets each command have one block, so that each is finished by itself.
func narrow(o *api.Options) { o.Span = 1 }

// oneOut lets one command be out, so that what comes behind it waits.
func oneOut(o *api.Options) { o.Out = 1 }

// P20.1: OpRead.

func TestAMissAndAHit(t *testing.T) {
	c := of(t)
	does(t, c, read(1, 4, 2))
	outIs(t, c, "r1:4+2[]")
	traceIs(t, c, 0, access(4, 2, 0), miss(4, api.Rand), miss(5, api.Rand), enter(4, api.Rand), enter(5, api.Rand))
	loadIs(t, c, api.Load{Tickets: 2, Waiters: 2, Out: 1, Pending: 1, Demand: 2, Frames: [4]int{6, 2, 0, 0}, Pins: 4})
	does(t, c, finish(1, true), well(1, 104, 105))
	traceIs(t, c, 5, ready(4), ready(5))
	loadIs(t, c, api.Load{Frames: [4]int{6, 0, 2, 0}})
	does(t, c, read(1, 5, 1), well(1, 105))
	traceIs(t, c, 7, access(5, 1, 0), hit(5, api.Rand))
	talliesAre(t, c, func(x *api.Tally) { x.Demand, x.Missed, x.Hits = 3, 2, 1 })
	loadIs(t, c, api.Load{Frames: [4]int{6, 0, 2, 0}})
}

// TestEachPlaceHasItsBlock: a request of hits and misses is told each block at its place, whichever comes first.
func TestEachPlaceHasItsBlock(t *testing.T) {
	c := of(t, narrow)
	all(t, c, read(1, 6, 1), finish(1, true))
	does(t, c, read(2, 4, 5))
	does(t, c, read(3, 6, 1), well(3, 106))
	for _, tag := range []int{5, 3, 2} {
		does(t, c, finish(tag, true))
	}
	does(t, c, finish(4, true), well(2, 104, 105, 106, 107, 108))
	talliesAre(t, c, func(x *api.Tally) { x.Demand, x.Missed, x.Hits = 7, 5, 2 })
}

// TestManyWantOneBlock: one command, and a pin for each.
func TestManyWantOneBlock(t *testing.T) {
	c := of(t, func(o *api.Options) { o.Requests = 10 })
	var want []api.Answer
	for id := 10; id > 0; id-- {
		does(t, c, read(id, 4, 1))
		want = append(want, well(id, 104))
	}
	outIs(t, c, "r1:4+1[]")
	loadIs(t, c, api.Load{Tickets: 1, Waiters: 10, Out: 1, Pending: 10, Demand: 1, Frames: [4]int{7, 1, 0, 0}, Pins: 11})
	talliesAre(t, c, func(x *api.Tally) { x.Demand, x.Missed, x.Merged = 10, 1, 9 })
	does(t, c, finish(1, true), want...)
	loadIs(t, c, api.Load{Frames: [4]int{7, 0, 1, 0}})
}

// TestWhatIsJoinedWithoutAFrame: who joins what isn't out yet has its pin, as soon as it has a frame.
func TestWhatIsJoinedWithoutAFrame(t *testing.T) {
	c := of(t, oneOut)
	all(t, c, read(1, 9, 1), read(2, 4, 1), read(3, 4, 1))
	loadIs(t, c, api.Load{Tickets: 2, Waiters: 3, Out: 1, Pending: 3, Demand: 2, Frames: [4]int{7, 1, 0, 0}, Pins: 2})
	traceIs(t, c, 3, access(4, 1, 0), miss(4, api.Rand), access(4, 1, 0), miss(4, api.Rand))
	does(t, c, finish(1, true), well(1, 109))
	loadIs(t, c, api.Load{Tickets: 1, Waiters: 2, Out: 1, Pending: 2, Demand: 1, Frames: [4]int{6, 1, 1, 0}, Pins: 3})
	does(t, c, finish(2, true), well(2, 104), well(3, 104))
	loadIs(t, c, api.Load{Frames: [4]int{6, 0, 2, 0}})
}

// TestAStreamsBlocksGoToSeq: what is read in a stream, or fetched ahead, goes to the list Seq, all else to Rand.
func TestAStreamsBlocksGoToSeq(t *testing.T) {
	c := of(t)
	all(t, c, read(1, 5, 1), finish(1, true))
	listsAre(t, c, nil, []int{5}, nil)
	all(t, c, read(2, 6, 1))
	traceIs(t, c, 4, access(6, 1, 1), miss(6, api.Seq), ahead(7, 1), enter(6, api.Seq), enter(7, api.Seq))
	listsAre(t, c, []int{7, 6}, []int{5}, []int{6, 7})
	all(t, c, finish(2, true), finish(3, true))
	does(t, c, read(3, 7, 1), well(3, 107))
	listsAre(t, c, []int{9, 8, 7, 6}, []int{5}, []int{8, 9})
	does(t, c, read(4, 7, 1), well(4, 107))
	listsAre(t, c, []int{9, 8, 6}, []int{7, 5}, []int{8, 9})
}

// TestARequestsListIsThatOfItsAccess: each of its blocks has that, what is in, too; and it is the joined ticket's.
func TestARequestsListIsThatOfItsAccess(t *testing.T) {
	c := of(t, oneOut)
	all(t, c, read(1, 3, 1), finish(1, true), read(2, 12, 1), read(3, 5, 1), read(4, 2, 1))
	traceIs(t, c, 4, access(12, 1, 0), miss(12, api.Rand), enter(12, api.Rand), access(5, 1, 0), miss(5, api.Rand), access(2, 1, 0), miss(2, api.Rand))
	// Block 3 was expected behind 2, so that 3 to 5 are a stream's: 3 is a hit, and 5 is joined.
	all(t, c, read(5, 3, 3))
	traceIs(t, c, 11, access(3, 3, 1), hit(3, api.Seq), miss(4, api.Seq), miss(5, api.Seq), ahead(6, 1))
	all(t, c, finish(2, true))
	// 5 came ahead of all, and has the list that it was joined for.
	outIs(t, c, "r3:4+2[]")
	traceIs(t, c, 16, ready(12), enter(4, api.Seq), enter(5, api.Seq))
	listsAre(t, c, []int{5, 4, 3}, []int{12}, []int{4, 5})
}

// TestLate: who waits for what was asked for ahead makes it a demand, and its stream asks sooner.
func TestLate(t *testing.T) {
	c := of(t, narrow)
	all(t, c, read(1, 5, 1), read(2, 6, 1), finish(1, true), finish(2, true), finish(3, true))
	does(t, c, read(3, 7, 1), well(3, 107))
	outIs(t, c, "r4:8+1[]", "r5:9+1[]")
	loadIs(t, c, api.Load{Tickets: 2, Loose: 2, Out: 2, Ahead: 2, Frames: [4]int{3, 2, 3, 0}, Pins: 2, Flight: 2})
	at := len(c.Trace())
	does(t, c, read(4, 8, 1))
	traceIs(t, c, at, access(8, 1, 1), hit(8, api.Seq), late(1))
	loadIs(t, c, api.Load{Tickets: 2, Waiters: 1, Loose: 1, Out: 2, Pending: 1, Demand: 1, Ahead: 1, Frames: [4]int{3, 2, 3, 0}, Pins: 3, Flight: 1})
	talliesAre(t, c, func(x *api.Tally) { x.Demand, x.Missed, x.Hits, x.Merged, x.Issued, x.Used = 4, 2, 1, 1, 3, 2 })
	if s := c.Streams(); len(s) != 1 || s[0].Flow.G != 1 {
		t.Errorf("Streams: %+v", s)
	}
	// It is late once alone, and used no more when it comes.
	does(t, c, read(5, 8, 1))
	does(t, c, finish(4, true), well(4, 108), well(5, 108))
	does(t, c, read(6, 8, 1), well(6, 108))
	talliesAre(t, c, func(x *api.Tally) { x.Demand, x.Missed, x.Hits, x.Merged, x.Issued, x.Used = 6, 2, 2, 2, 3, 2 })
	if n := c.Load().Resident; n != 0 {
		t.Errorf("Resident: %d", n)
	}
}

// TestLateOfWhatIsNotOut: it has no frame yet, so that it is a miss, and late all the same.
func TestLateOfWhatIsNotOut(t *testing.T) {
	c := of(t, oneOut, narrow)
	all(t, c, read(1, 5, 1), read(2, 6, 1))
	at := len(c.Trace())
	all(t, c, read(3, 7, 1))
	traceIs(t, c, at, access(7, 1, 1), miss(7, api.Seq), late(1), ahead(8, 1), ahead(9, 1))
	talliesAre(t, c, func(x *api.Tally) { x.Demand, x.Missed, x.Merged, x.Issued, x.Used = 3, 2, 1, 3, 1 })
	loadIs(t, c, api.Load{Tickets: 5, Waiters: 3, Loose: 2, Out: 1, Pending: 3, Demand: 3, Ahead: 2, Frames: [4]int{7, 1, 0, 0}, Pins: 2, Flight: 2})
}

// TestWhatIsUnusedIsUsedOnce: what was fetched ahead is unused, till it is read first.
func TestWhatIsUnusedIsUsedOnce(t *testing.T) {
	c := of(t)
	all(t, c, read(1, 5, 1), read(2, 6, 1), finish(1, true), finish(2, true))
	loadIs(t, c, api.Load{Tickets: 1, Loose: 1, Out: 1, Ahead: 1, Frames: [4]int{5, 1, 2, 0}, Pins: 1, Flight: 1})
	does(t, c, finish(3, true))
	loadIs(t, c, api.Load{Frames: [4]int{5, 0, 3, 0}, Resident: 1})
	cachedIs(t, c, 7, 107)
	talliesAre(t, c, func(x *api.Tally) { x.Demand, x.Missed, x.Issued = 2, 2, 1 })
	at := len(c.Trace())
	// Whoever reads it: it needn't be who was to.
	does(t, c, read(3, 7, 2))
	traceIs(t, c, at, access(7, 2, 1), hit(7, api.Seq), miss(8, api.Seq), ahead(9, 1), ahead(10, 1),
		enter(8, api.Seq), enter(9, api.Seq), enter(10, api.Seq))
	talliesAre(t, c, func(x *api.Tally) { x.Demand, x.Missed, x.Hits, x.Issued, x.Used = 4, 3, 1, 3, 1 })
	does(t, c, read(4, 7, 1), well(4, 107))
	talliesAre(t, c, func(x *api.Tally) { x.Demand, x.Missed, x.Hits, x.Issued, x.Used = 5, 3, 2, 3, 1 })
	if n := c.Load().Resident; n != 0 {
		t.Errorf("Resident: %d", n)
	}
}

// TestAHitNeedsAnEmptyLane: what is cached of a block that is being written is told to nobody.
func TestAHitNeedsAnEmptyLane(t *testing.T) {
	c := of(t)
	all(t, c, read(1, 5, 1), read(2, 6, 1), finish(1, true), finish(2, true), finish(3, true))
	at := len(c.Trace())
	does(t, c, write(2, 7, 55))
	does(t, c, read(3, 7, 1))
	cachedIs(t, c, 7, 107)
	// It is in, and was unused: that it is read counts, though it isn't told yet.
	traceIs(t, c, at, access(7, 1, 1), hit(7, api.Seq), ahead(8, 1), ahead(9, 1), enter(8, api.Seq), enter(9, api.Seq))
	talliesAre(t, c, func(x *api.Tally) { x.Demand, x.Missed, x.Issued, x.Used = 3, 3, 3, 1 })
	outIs(t, c, "w4:7+1[55]", "r5:8+2[]")
	loadIs(t, c, api.Load{Tickets: 4, Waiters: 2, Loose: 2, Out: 2, Pending: 2, Demand: 2, Ahead: 2, Frames: [4]int{3, 2, 3, 0}, Pins: 2, Flight: 2})
	does(t, c, finish(4, true), well(2), well(3, 55))
	cachedIs(t, c, 7, 55)
}

// TestWhatIsNotAskedForAhead: what is in, and what somebody has to do with.
func TestWhatIsNotAskedForAhead(t *testing.T) {
	c := of(t, narrow)
	all(t, c, read(1, 9, 1), finish(1, true), write(2, 8, 1), read(3, 11, 1), read(4, 6, 1))
	at := len(c.Trace())
	// The stream's run is block 8, of which a Write is out; then 9 and 10, 9 of which is in.
	does(t, c, read(5, 7, 1))
	traceIs(t, c, at, access(7, 1, 1), miss(7, api.Seq), enter(7, api.Seq))
	all(t, c, finish(2, true), finish(4, true))
	at = len(c.Trace())
	does(t, c, read(6, 8, 1))
	traceIs(t, c, at, access(8, 1, 1), miss(8, api.Seq), ahead(10, 1), enter(8, api.Seq), enter(10, api.Seq))
	talliesAre(t, c, func(x *api.Tally) { x.Demand, x.Missed, x.Issued = 5, 5, 1 })
	// The next one is 11 to 13, of which 11 is on its way.
	all(t, c, finish(5, true), finish(6, true), finish(7, true))
	at = len(c.Trace())
	all(t, c, read(7, 9, 1), read(8, 10, 1))
	traceIs(t, c, at, access(9, 1, 1), hit(9, api.Seq), access(10, 1, 1), hit(10, api.Seq), ahead(12, 1), ahead(13, 1), enter(12, api.Seq), enter(13, api.Seq))
}

// TestNoPlaceAhead: what was to be asked for ahead is dropped at once.
func TestNoPlaceAhead(t *testing.T) {
	c := of(t, func(o *api.Options) { o.Ahead = 1 })
	all(t, c, read(1, 5, 1), read(2, 6, 1), finish(1, true), finish(2, true), finish(3, true))
	at := len(c.Trace())
	does(t, c, read(3, 7, 1), well(3, 107))
	traceIs(t, c, at, access(7, 1, 1), hit(7, api.Seq), ahead(8, 1), dropped(9, 1), enter(8, api.Seq))
	talliesAre(t, c, func(x *api.Tally) { x.Demand, x.Missed, x.Hits, x.Issued, x.Used, x.Dropped = 3, 2, 1, 3, 1, 1 })

	c = of(t, func(o *api.Options) { o.Ahead = 0 })
	all(t, c, read(1, 5, 1), read(2, 6, 1))
	traceIs(t, c, 3, access(6, 1, 1), miss(6, api.Seq), dropped(7, 1), enter(6, api.Seq))
	talliesAre(t, c, func(x *api.Tally) { x.Demand, x.Missed, x.Issued, x.Dropped = 2, 2, 1, 1 })
}

// TestWhatIsDroppedIsItsStreams: of two streams each has its own.
func TestWhatIsDroppedIsItsStreams(t *testing.T) {
	c := of(t, oneOut)
	all(t, c, read(1, 12, 1), read(2, 5, 1), read(3, 13, 1), read(4, 6, 1))
	at := len(c.Trace())
	all(t, c, drop(7, 1), write(5, 14, 3))
	traceIs(t, c, at, dropped(7, 2), dropped(14, 1))
	talliesAre(t, c, func(x *api.Tally) { x.Demand, x.Missed, x.Issued, x.Dropped = 4, 4, 2, 2 })
}

// P20.1: OpWrite.

func TestAWrite(t *testing.T) {
	c := of(t)
	does(t, c, write(1, 4, 7, 8))
	outIs(t, c, "w1:4+2[7 8]")
	loadIs(t, c, api.Load{Tickets: 2, Waiters: 2, Out: 1, Pending: 1, Demand: 2, Frames: [4]int{8, 0, 0, 0}})
	does(t, c, finish(1, true), well(1))
	// What is written goes through: it isn't in by that, and nothing is told of it, or counted.
	notCached(t, c, 4, 5)
	traceIs(t, c, 0)
	talliesAre(t, c, func(*api.Tally) {})
	loadIs(t, c, api.Load{Frames: [4]int{8, 0, 0, 0}})
	does(t, c, read(1, 4, 2))
	does(t, c, finish(2, true), well(1, 7, 8))
}

// TestAWriteOfWhatIsIn: its frame has the value, as soon as the disk has.
func TestAWriteOfWhatIsIn(t *testing.T) {
	c := of(t)
	all(t, c, read(1, 4, 1), finish(1, true))
	at := len(c.Trace())
	does(t, c, write(2, 3, 7, 8))
	cachedIs(t, c, 4, 104)
	does(t, c, finish(2, true), well(2))
	cachedIs(t, c, 4, 8)
	notCached(t, c, 3)
	traceIs(t, c, at)
	does(t, c, read(3, 4, 1), well(3, 8))
}

// TestAWriteThatIsLost: the request has failed, and what is cached stays as it was.
func TestAWriteThatIsLost(t *testing.T) {
	c := of(t, func(o *api.Options) { o.Tries = 2 })
	all(t, c, read(1, 4, 1), finish(1, true))
	all(t, c, write(2, 4, 8), read(3, 4, 1))
	does(t, c, finish(2, false))
	outIs(t, c, "w3:4+1[8]")
	does(t, c, finish(3, false), failed(2), well(3, 104))
	cachedIs(t, c, 4, 104)
	if d := c.Disk(); d[4] != 104 {
		t.Errorf("Disk: %v", d)
	}
	loadIs(t, c, api.Load{Frames: [4]int{7, 0, 1, 0}})
}

// TestWritesAreDoneInOrder: of one block, one behind the other; each read is told what the last one ahead of it wrote.
func TestWritesAreDoneInOrder(t *testing.T) {
	c := of(t)
	all(t, c, read(1, 4, 1), write(2, 4, 1), read(3, 4, 1), write(4, 4, 2), write(5, 4, 3), read(6, 4, 1), read(7, 4, 1))
	talliesAre(t, c, func(x *api.Tally) { x.Demand, x.Missed, x.Merged = 4, 3, 1 })
	does(t, c, finish(1, true), well(1, 104))
	does(t, c, finish(2, true), well(2), well(3, 1))
	outIs(t, c, "w3:4+1[2]")
	does(t, c, finish(3, true), well(4))
	does(t, c, finish(4, true), well(5), well(6, 3), well(7, 3))
	cachedIs(t, c, 4, 3)
}

// TestAWriteSendsAnAheadAway: one that isn't out, and hasn't been asked for since.
func TestAWriteSendsAnAheadAway(t *testing.T) {
	c := of(t, oneOut)
	all(t, c, read(1, 5, 1), read(2, 6, 1))
	at := len(c.Trace())
	does(t, c, write(3, 7, 1, 2))
	traceIs(t, c, at, dropped(7, 1))
	talliesAre(t, c, func(x *api.Tally) { x.Demand, x.Missed, x.Issued, x.Dropped = 2, 2, 1, 1 })
	if l := c.Load(); l.Flight != 0 || l.Tickets != 4 {
		t.Errorf("Load: %+v", l)
	}

	// One that is out stays, and is unused behind the write.
	c = of(t)
	all(t, c, read(1, 5, 1), read(2, 6, 1))
	at = len(c.Trace())
	does(t, c, write(3, 7, 9))
	traceIs(t, c, at)
	does(t, c, finish(3, true))
	if l := c.Load(); l.Resident != 1 || l.Flight != 0 {
		t.Errorf("Load: %+v", l)
	}
	does(t, c, finish(4, true), well(3))
	cachedIs(t, c, 7, 9)
	talliesAre(t, c, func(x *api.Tally) { x.Demand, x.Missed, x.Issued = 2, 2, 1 })
}

// P20.1: OpDrop.

func TestADrop(t *testing.T) {
	c := of(t)
	all(t, c, read(1, 3, 4), finish(1, true))
	at := len(c.Trace())
	does(t, c, drop(2, 3))
	traceIs(t, c, at, gone(3), gone(4))
	notCached(t, c, 3, 4)
	cachedIs(t, c, 5, 105)
	listsAre(t, c, nil, []int{6, 5}, nil)
	loadIs(t, c, api.Load{Frames: [4]int{6, 0, 2, 0}})
	talliesAre(t, c, func(x *api.Tally) { x.Demand, x.Missed = 4, 4 })
	does(t, c, drop(0, 8))
	does(t, c, drop(0, 8))
	traceIs(t, c, at+2, gone(5), gone(6))
	loadIs(t, c, api.Load{Frames: [4]int{8, 0, 0, 0}})
}

// TestWhatIsDroppedWhileItIsReadIsToldButNotKept: and who comes later reads anew.
func TestWhatIsDroppedWhileItIsReadIsToldButNotKept(t *testing.T) {
	c := of(t)
	all(t, c, read(1, 4, 1))
	at := len(c.Trace())
	does(t, c, drop(4, 1))
	traceIs(t, c, at, gone(4))
	loadIs(t, c, api.Load{Tickets: 1, Waiters: 1, Out: 1, Pending: 1, Demand: 1, Frames: [4]int{7, 0, 0, 1}, Pins: 2})
	listsAre(t, c, nil, nil, nil)
	does(t, c, drop(4, 1))
	does(t, c, read(2, 4, 1))
	traceIs(t, c, at+1, access(4, 1, 0), miss(4, api.Rand))
	talliesAre(t, c, func(x *api.Tally) { x.Demand, x.Missed = 2, 2 })
	does(t, c, finish(1, true), well(1, 104))
	notCached(t, c, 4)
	outIs(t, c, "r2:4+1[]")
	traceIs(t, c, at+3, enter(4, api.Rand))
	does(t, c, finish(2, true), well(2, 104))
	cachedIs(t, c, 4, 104)
}

// TestWhatIsDroppedAndFails: it is tried again, in the frame that it has, and tells nobody that it goes once more.
func TestWhatIsDroppedAndFails(t *testing.T) {
	c := of(t, func(o *api.Options) { o.Tries = 3 })
	all(t, c, read(1, 4, 1), drop(4, 1), finish(1, false))
	at := len(c.Trace())
	outIs(t, c, "r2:4+1[]")
	loadIs(t, c, api.Load{Tickets: 1, Waiters: 1, Out: 1, Pending: 1, Demand: 1, Frames: [4]int{7, 0, 0, 1}, Pins: 2})
	all(t, c, finish(2, false))
	does(t, c, finish(3, false), failed(1))
	traceIs(t, c, at)
	loadIs(t, c, api.Load{Frames: [4]int{8, 0, 0, 0}})
}

func TestADropOfWhatIsAskedForAhead(t *testing.T) {
	// Not out yet: it is dropped.
	c := of(t, oneOut)
	all(t, c, read(1, 5, 1), read(2, 6, 1))
	at := len(c.Trace())
	does(t, c, drop(7, 1))
	traceIs(t, c, at, dropped(7, 1))
	talliesAre(t, c, func(x *api.Tally) { x.Demand, x.Missed, x.Issued, x.Dropped = 2, 2, 1, 1 })

	// Out: it goes, and is wasted, when it comes; nothing is unused.
	c = of(t)
	all(t, c, read(1, 5, 1), read(2, 6, 1))
	at = len(c.Trace())
	does(t, c, drop(7, 1))
	traceIs(t, c, at, gone(7))
	loadIs(t, c, api.Load{Tickets: 3, Waiters: 2, Loose: 1, Out: 3, Pending: 2, Demand: 2, Ahead: 1, Frames: [4]int{5, 2, 0, 1}, Pins: 5, Flight: 1})
	does(t, c, finish(3, true))
	traceIs(t, c, at+1)
	talliesAre(t, c, func(x *api.Tally) { x.Demand, x.Missed, x.Issued, x.Wasted = 2, 2, 1, 1 })
	loadIs(t, c, api.Load{Tickets: 2, Waiters: 2, Out: 2, Pending: 2, Demand: 2, Frames: [4]int{6, 2, 0, 0}, Pins: 4})
	notCached(t, c, 7)

	// Out, and it fails: it is lost.
	c = of(t)
	all(t, c, read(1, 5, 1), read(2, 6, 1), drop(7, 1))
	at = len(c.Trace())
	does(t, c, finish(3, false))
	traceIs(t, c, at)
	talliesAre(t, c, func(x *api.Tally) { x.Demand, x.Missed, x.Issued, x.Lost = 2, 2, 1, 1 })

	// There: it is wasted, but its stream isn't told so.
	c = of(t)
	all(t, c, read(1, 5, 1), read(2, 6, 1), finish(3, true))
	at = len(c.Trace())
	streams := c.Streams()
	does(t, c, drop(7, 1))
	traceIs(t, c, at, gone(7))
	talliesAre(t, c, func(x *api.Tally) { x.Demand, x.Missed, x.Issued, x.Wasted = 2, 2, 1, 1 })
	if n := c.Load().Resident; n != 0 || !slices.Equal(c.Streams(), streams) {
		t.Errorf("Resident %d, streams %+v, not %+v", n, c.Streams(), streams)
	}

	// There, and read: it isn't wasted.
	c = of(t)
	all(t, c, read(1, 5, 1), read(2, 6, 1), finish(3, true), read(3, 7, 1), drop(7, 1))
	if x := c.Tally(); x.Wasted != 0 || x.Used != 1 {
		t.Errorf("Tally: %+v", x)
	}
}

// TestADropBehindAWrite: who reads behind the write has nothing to be served from, and reads from the disk.
func TestADropBehindAWrite(t *testing.T) {
	c := of(t)
	all(t, c, read(1, 4, 1), finish(1, true), write(2, 4, 9), read(3, 4, 1))
	at := len(c.Trace())
	does(t, c, drop(4, 1))
	traceIs(t, c, at, gone(4))
	does(t, c, finish(2, true), well(2))
	outIs(t, c, "r3:4+1[]")
	does(t, c, finish(3, true), well(3, 9))
	// A Read that has no frame yet isn't cut: who comes later joins it.
	c = of(t, oneOut)
	all(t, c, read(1, 9, 1), read(2, 4, 1))
	does(t, c, drop(4, 1))
	all(t, c, read(3, 4, 1))
	does(t, c, finish(1, true), well(1, 109))
	does(t, c, finish(2, true), well(2, 104), well(3, 104))
	cachedIs(t, c, 4, 104)
}

// P20.1: OpCancel.

func TestACancelOfWhatIsNotOut(t *testing.T) {
	c := of(t, oneOut)
	all(t, c, read(1, 9, 1), read(2, 4, 2), write(3, 6, 5))
	at := len(c.Trace())
	does(t, c, cancel(2), cancelled(2))
	does(t, c, cancel(3), cancelled(3))
	traceIs(t, c, at)
	loadIs(t, c, api.Load{Tickets: 1, Waiters: 1, Out: 1, Pending: 1, Demand: 1, Frames: [4]int{7, 1, 0, 0}, Pins: 2})
	does(t, c, finish(1, true), well(1, 109))
	outIs(t, c)
	if d := c.Disk(); !slices.Equal(d, tens(20)) {
		t.Errorf("Disk: %v", d)
	}
	refused(t, c, cancel(2), api.NotFound)
}

// TestACancelOfWhatIsOut: the command goes on, and what it reads is kept; nobody is told.
func TestACancelOfWhatIsOut(t *testing.T) {
	c := of(t)
	all(t, c, read(1, 4, 1))
	at := len(c.Trace())
	does(t, c, cancel(1), cancelled(1))
	traceIs(t, c, at)
	outIs(t, c, "r1:4+1[]")
	loadIs(t, c, api.Load{Tickets: 1, Loose: 1, Out: 1, Demand: 1, Frames: [4]int{7, 1, 0, 0}, Pins: 1})
	does(t, c, read(1, 4, 1))
	does(t, c, cancel(1), cancelled(1))
	does(t, c, finish(1, true))
	cachedIs(t, c, 4, 104)
	loadIs(t, c, api.Load{Frames: [4]int{7, 0, 1, 0}})
	talliesAre(t, c, func(x *api.Tally) { x.Demand, x.Missed, x.Merged = 2, 1, 1 })
}

// TestACancelledReadThatFails: nobody waits for it, so that it is lost at once.
func TestACancelledReadThatFails(t *testing.T) {
	c := of(t)
	all(t, c, read(1, 4, 1), cancel(1))
	at := len(c.Trace())
	does(t, c, finish(1, false))
	traceIs(t, c, at, gone(4))
	outIs(t, c)
	loadIs(t, c, api.Load{Frames: [4]int{8, 0, 0, 0}})
}

// TestACancelLeavesOthers: who waits for the same goes on to wait, with its pin.
func TestACancelLeavesOthers(t *testing.T) {
	c := of(t)
	all(t, c, read(1, 4, 2), read(2, 5, 1), read(3, 4, 1))
	does(t, c, cancel(1), cancelled(1))
	loadIs(t, c, api.Load{Tickets: 2, Waiters: 2, Out: 1, Pending: 2, Demand: 2, Frames: [4]int{6, 2, 0, 0}, Pins: 4})
	does(t, c, finish(1, true), well(3, 104), well(2, 105))
}

// waitingInAFrame is a cache in which block 4's Read, request 4's, failed once, and waits to go out again, in the frame that it has: a demand that came ahead of it goes first.
func waitingInAFrame(t *testing.T) *cache.Cache {
	t.Helper()
	c := of(t, func(o *api.Options) { o.Out = 2 })
	all(t, c, write(1, 9, 1, 2), write(2, 9, 3), read(3, 10, 1), read(4, 4, 1), finish(1, true), finish(2, false))
	outIs(t, c, "w3:9+1[3]", "r4:10+1[]")
	loadIs(t, c, api.Load{Tickets: 3, Waiters: 3, Out: 2, Pending: 3, Demand: 3, Frames: [4]int{6, 2, 0, 0}, Pins: 4})
	return c
}

// TestACancelOfWhatHasAFrameAndIsNotOut: its block goes, and the frame is free.
func TestACancelOfWhatHasAFrameAndIsNotOut(t *testing.T) {
	c := waitingInAFrame(t)
	at := len(c.Trace())
	does(t, c, cancel(4), cancelled(4))
	traceIs(t, c, at, gone(4))
	loadIs(t, c, api.Load{Tickets: 2, Waiters: 2, Out: 2, Pending: 2, Demand: 2, Frames: [4]int{7, 1, 0, 0}, Pins: 2})
	listsAre(t, c, nil, []int{10}, []int{10})
	does(t, c, read(4, 4, 1))
	does(t, c, finish(3, true), well(2))
	does(t, c, finish(5, true), well(4, 104))

	// Somebody else waits for it: it stays, with a pin less.
	c = waitingInAFrame(t)
	all(t, c, read(7, 4, 1))
	at = len(c.Trace())
	does(t, c, cancel(4), cancelled(4))
	traceIs(t, c, at)
	loadIs(t, c, api.Load{Tickets: 3, Waiters: 3, Out: 2, Pending: 3, Demand: 3, Frames: [4]int{6, 2, 0, 0}, Pins: 4})
	does(t, c, finish(3, true), well(2))
	does(t, c, finish(5, true), well(7, 104))

	// It was dropped: its block went by that, and doesn't go again.
	c = waitingInAFrame(t)
	all(t, c, drop(4, 1))
	loadIs(t, c, api.Load{Tickets: 3, Waiters: 3, Out: 2, Pending: 3, Demand: 3, Frames: [4]int{6, 1, 0, 1}, Pins: 4})
	at = len(c.Trace())
	does(t, c, cancel(4), cancelled(4))
	traceIs(t, c, at)
	loadIs(t, c, api.Load{Tickets: 2, Waiters: 2, Out: 2, Pending: 2, Demand: 2, Frames: [4]int{7, 1, 0, 0}, Pins: 2})

	// It was dropped, and its block came behind it: that has a Read of its own, which goes out at once.
	c = waitingInAFrame(t)
	all(t, c, drop(4, 1), read(8, 4, 1), finish(3, true))
	outIs(t, c, "r4:10+1[]", "r5:4+1[]")
	does(t, c, finish(5, true), well(4, 104))
	outIs(t, c, "r4:10+1[]", "r6:4+1[]")
	does(t, c, finish(6, true), well(8, 104))
	cachedIs(t, c, 4, 104)
}

// TestACancelServes: who read behind a write that is cancelled is told what is cached, behind that it is cancelled.
func TestACancelServes(t *testing.T) {
	c := of(t, oneOut)
	all(t, c, read(1, 4, 2), finish(1, true), read(2, 12, 1), write(3, 4, 1, 2), read(5, 5, 1), read(6, 5, 1), read(4, 4, 1))
	does(t, c, cancel(3), cancelled(3), well(4, 104), well(5, 105), well(6, 105))
	loadIs(t, c, api.Load{Tickets: 1, Waiters: 1, Out: 1, Pending: 1, Demand: 1, Frames: [4]int{5, 1, 2, 0}, Pins: 2})
	outIs(t, c, "r2:12+1[]")

	// A write that is left is done first.
	c = of(t, oneOut)
	all(t, c, read(1, 4, 1), finish(1, true), read(2, 12, 1), write(3, 4, 1), write(4, 4, 2), read(5, 4, 1))
	does(t, c, cancel(3), cancelled(3))
	does(t, c, finish(2, true), well(2, 112))
	does(t, c, finish(3, true), well(4), well(5, 2))
}

// TestACancelThatIsBusy: a write that is out, or of which a part was done, or lost.
func TestACancelThatIsBusy(t *testing.T) {
	c := of(t, narrow, oneOut)
	all(t, c, write(1, 4, 5, 6))
	refused(t, c, cancel(1), api.Busy)
	does(t, c, finish(1, false))
	refused(t, c, cancel(1), api.Busy)
	does(t, c, finish(2, true))
	refused(t, c, cancel(1), api.Busy)
	does(t, c, finish(3, true), well(1))
	refused(t, c, cancel(1), api.NotFound)

	// Nothing of it is out: its second block waits behind a read.
	for _, ended := range []bool{true, false} {
		c = of(t, func(o *api.Options) { o.Tries = 1 })
		all(t, c, read(2, 5, 1), write(1, 4, 8, 9))
		outIs(t, c, "r1:5+1[]", "w2:4+1[8]")
		refused(t, c, cancel(1), api.Busy)
		does(t, c, finish(2, ended))
		outIs(t, c, "r1:5+1[]")
		refused(t, c, cancel(1), api.Busy)
		does(t, c, finish(1, true), well(2, 105))
		if ended {
			does(t, c, finish(3, true), well(1))
		} else {
			does(t, c, finish(3, true), failed(1))
		}
	}

	// It failed, and waits: nothing was done yet.
	c = of(t, func(o *api.Options) { o.Out = 2 })
	all(t, c, write(1, 9, 1, 2), write(2, 9, 3), read(3, 10, 1), write(4, 4, 7), finish(1, true), finish(2, false))
	outIs(t, c, "w3:9+1[3]", "r4:10+1[]")
	does(t, c, cancel(4), cancelled(4))
	loadIs(t, c, api.Load{Tickets: 2, Waiters: 2, Out: 2, Pending: 2, Demand: 2, Frames: [4]int{7, 1, 0, 0}, Pins: 2})
}

// TestACancelOfAReadThatIsTouched: that a part of it was told doesn't matter.
func TestACancelOfAReadThatIsTouched(t *testing.T) {
	c := of(t, narrow)
	all(t, c, read(1, 4, 2), finish(1, true))
	does(t, c, cancel(1), cancelled(1))
	does(t, c, finish(2, true))
	cachedIs(t, c, 5, 105)
}

// P20.1: OpFinish.

func TestAnEndTellsInOrder(t *testing.T) {
	c := of(t, oneOut)
	all(t, c, read(1, 12, 1), read(2, 5, 2), read(4, 6, 1), read(3, 4, 2), read(5, 4, 1), finish(1, true))
	outIs(t, c, "r2:4+3[]")
	// By blocks, and of each by who came first.
	does(t, c, finish(2, true), well(5, 104), well(3, 104, 105), well(2, 105, 106), well(4, 106))
}

// TestServedBetween: a block is served as soon as it is there, ahead of the next one of the same command.
func TestServedBetween(t *testing.T) {
	c := of(t)
	all(t, c, read(1, 4, 2), finish(1, true), write(2, 4, 8, 9), read(4, 5, 1), read(3, 4, 1))
	does(t, c, finish(2, true), well(3, 8), well(2), well(4, 9))

	// Of two writes the second's end comes behind the first's reads.
	c = of(t)
	all(t, c, read(1, 4, 2), finish(1, true), write(2, 4, 8), write(3, 5, 9), read(5, 5, 1), read(4, 4, 1))
	outIs(t, c, "w2:4+1[8]", "w3:5+1[9]")
	does(t, c, finish(3, true), well(3), well(5, 9))
	does(t, c, finish(2, true), well(2), well(4, 8))
}

func TestAFailureIsTriedAgain(t *testing.T) {
	c := of(t)
	all(t, c, read(1, 4, 2))
	at := len(c.Trace())
	does(t, c, finish(1, false))
	outIs(t, c, "r2:4+2[]")
	loadIs(t, c, api.Load{Tickets: 2, Waiters: 2, Out: 1, Pending: 1, Demand: 2, Frames: [4]int{6, 2, 0, 0}, Pins: 4})
	does(t, c, finish(2, false))
	traceIs(t, c, at)
	does(t, c, finish(3, false), failed(1))
	traceIs(t, c, at, gone(4), gone(5))
	loadIs(t, c, api.Load{Frames: [4]int{8, 0, 0, 0}})
	listsAre(t, c, nil, nil, nil)
	// It is asked for anew by who comes later.
	does(t, c, read(1, 4, 1))
	does(t, c, finish(4, true), well(1, 104))
	talliesAre(t, c, func(x *api.Tally) { x.Demand, x.Missed = 3, 3 })
}

// TestAFailureOfOneBlock: the request has failed, once all its blocks are told, or lost.
func TestAFailureOfOneBlock(t *testing.T) {
	c := of(t, narrow, func(o *api.Options) { o.Tries = 1 })
	all(t, c, read(1, 4, 3), read(2, 5, 1), finish(2, false))
	does(t, c, finish(1, true))
	does(t, c, finish(3, true), failed(1))
	cachedIs(t, c, 4, 104)
	cachedIs(t, c, 6, 106)
	notCached(t, c, 5)
	c = of(t, func(o *api.Options) { o.Tries = 1 })
	all(t, c, read(1, 4, 1), read(2, 4, 1))
	does(t, c, finish(1, false), failed(1), failed(2))
}

// TestAnAheadThatFails: it isn't tried again, as nobody waits; it is lost.
func TestAnAheadThatFails(t *testing.T) {
	c := of(t)
	all(t, c, read(1, 5, 1), read(2, 6, 1))
	at := len(c.Trace())
	does(t, c, finish(3, false))
	traceIs(t, c, at, gone(7))
	outIs(t, c, "r1:5+1[]", "r2:6+1[]")
	talliesAre(t, c, func(x *api.Tally) { x.Demand, x.Missed, x.Issued, x.Lost = 2, 2, 1, 1 })
	// One that is waited for is tried again.
	c = of(t)
	all(t, c, read(1, 5, 1), read(2, 6, 1), read(3, 7, 1))
	does(t, c, finish(3, false))
	if x := c.Tally(); x.Lost != 0 || x.Used != 1 || len(c.Out()) != 4 {
		t.Errorf("Tally: %+v, out %v", x, c.Out())
	}
}

// TestCommandsEndInAnyOrder: each tells its own.
func TestCommandsEndInAnyOrder(t *testing.T) {
	for _, order := range [][]int{{1, 2, 3}, {1, 3, 2}, {2, 1, 3}, {2, 3, 1}, {3, 1, 2}, {3, 2, 1}} {
		c := of(t, narrow)
		all(t, c, read(1, 4, 1), read(2, 9, 1), read(3, 14, 1))
		for _, n := range order {
			does(t, c, finish(n, true), well(n, uint64(99+5*n)))
		}
	}
}

// P20.1: moves go out.

func TestMovesAreNoLongerThanASpanAndNoMoreThanMayBeOut(t *testing.T) {
	c := of(t, func(o *api.Options) { o.Out, o.Span = 2, 3 })
	does(t, c, read(1, 2, 8))
	outIs(t, c, "r1:2+3[]", "r2:5+3[]")
	loadIs(t, c, api.Load{Tickets: 8, Waiters: 8, Out: 2, Pending: 1, Demand: 8, Frames: [4]int{2, 6, 0, 0}, Pins: 12})
	does(t, c, finish(2, true))
	outIs(t, c, "r1:2+3[]", "r3:8+2[]")
	does(t, c, finish(3, true))
	does(t, c, finish(1, true), well(1, tens(20)[2:10]...))
}

// TestNoFrameForADemand: it waits, till a frame is free, or can be; what needs none goes out.
func TestNoFrameForADemand(t *testing.T) {
	c := of(t, func(o *api.Options) { o.Frames, o.Bottom, o.Span = 2, 1, 1 })
	all(t, c, read(1, 4, 1), read(2, 9, 1), read(3, 14, 1), write(4, 0, 1))
	outIs(t, c, "r1:4+1[]", "r2:9+1[]", "w3:0+1[1]")
	at := len(c.Trace())
	does(t, c, finish(2, true), well(2, 109))
	outIs(t, c, "r1:4+1[]", "w3:0+1[1]", "r4:14+1[]")
	traceIs(t, c, at, ready(9), victim(9), enter(14, api.Rand))
	notCached(t, c, 9)
	loadIs(t, c, api.Load{Tickets: 3, Waiters: 3, Out: 3, Pending: 3, Demand: 3, Frames: [4]int{0, 2, 0, 0}, Pins: 4})
}

// TestNoMoreGoTogetherThanThereAreFramesFor: a free one, and one that can go, are two.
func TestNoMoreGoTogetherThanThereAreFramesFor(t *testing.T) {
	c := of(t, func(o *api.Options) { o.Frames, o.Bottom = 3, 1 })
	all(t, c, read(1, 14, 1), read(2, 0, 1), finish(2, true))
	at := len(c.Trace())
	all(t, c, read(3, 4, 4))
	outIs(t, c, "r1:14+1[]", "r3:4+2[]")
	traceIs(t, c, at, access(4, 4, 0), miss(4, api.Rand), miss(5, api.Rand), miss(6, api.Rand), miss(7, api.Rand),
		enter(4, api.Rand), victim(0), enter(5, api.Rand))
	// A dropped one's frame isn't free, as long as somebody has it.
	at = len(c.Trace())
	does(t, c, drop(14, 1))
	outIs(t, c, "r1:14+1[]", "r3:4+2[]")
	does(t, c, finish(1, true), well(1, 114))
	outIs(t, c, "r3:4+2[]", "r4:6+1[]")
	traceIs(t, c, at, gone(14), enter(6, api.Rand))
}

// TestNoFrameForAnAhead: it is dropped, and the one behind it, too.
func TestNoFrameForAnAhead(t *testing.T) {
	c := of(t, func(o *api.Options) { o.Frames, o.Bottom, o.Degree = 2, 1, 2 })
	all(t, c, read(1, 4, 1), read(2, 5, 1))
	traceIs(t, c, 3, access(5, 1, 1), miss(5, api.Seq), ahead(6, 1), enter(5, api.Seq), dropped(6, 1))
	talliesAre(t, c, func(x *api.Tally) { x.Demand, x.Missed, x.Issued, x.Dropped = 2, 2, 1, 1 })
	loadIs(t, c, api.Load{Tickets: 2, Waiters: 2, Out: 2, Pending: 2, Demand: 2, Frames: [4]int{0, 2, 0, 0}, Pins: 4})
	at := len(c.Trace())
	all(t, c, read(3, 6, 1))
	traceIs(t, c, at, access(6, 1, 1), miss(6, api.Seq), ahead(7, 1), ahead(8, 1), dropped(7, 1), dropped(8, 1))
}

// TestWhatWasNeverReadIsWasted: a victim that is unused says so to its stream, and whoever has its frame then isn't unused.
func TestWhatWasNeverReadIsWasted(t *testing.T) {
	c := of(t, func(o *api.Options) { o.Frames, o.Bottom = 4, 1 })
	all(t, c, read(1, 4, 1), finish(1, true), read(2, 5, 1), finish(2, true), finish(3, true), read(3, 6, 1), finish(4, true))
	listsAre(t, c, []int{8, 7, 6}, []int{4}, nil)
	streamIs(t, c, api.Flow{Next: 7, Ahead: 9, P: 2})
	if n := c.Load().Resident; n != 2 {
		t.Errorf("Resident: %d", n)
	}
	at := len(c.Trace())
	all(t, c, read(4, 15, 1), read(5, 12, 1))
	traceIs(t, c, at, access(15, 1, 0), miss(15, api.Rand), victim(6), enter(15, api.Rand),
		access(12, 1, 0), miss(12, api.Rand), victim(7), waste(1), enter(12, api.Rand))
	streamIs(t, c, api.Flow{Next: 7, Ahead: 9, P: 1})
	talliesAre(t, c, func(x *api.Tally) { x.Demand, x.Missed, x.Hits, x.Issued, x.Used, x.Wasted = 5, 4, 1, 3, 1, 1 })
	if n := c.Load().Resident; n != 1 {
		t.Errorf("Resident: %d", n)
	}
	all(t, c, finish(5, true), finish(6, true), read(6, 12, 1), drop(12, 1), read(7, 8, 1))
	talliesAre(t, c, func(x *api.Tally) { x.Demand, x.Missed, x.Hits, x.Issued, x.Used, x.Wasted = 7, 4, 3, 3, 2, 1 })
}

// TestADroppedFrameIsUnusedNoMore: whoever has it then, is read, or goes.
func TestADroppedFrameIsUnusedNoMore(t *testing.T) {
	c := of(t, func(o *api.Options) { o.Frames, o.Bottom = 3, 1 })
	all(t, c, read(1, 4, 1), finish(1, true), read(2, 5, 1), finish(2, true), finish(3, true), drop(6, 1))
	sums := c.Tally()
	all(t, c, read(3, 15, 1), finish(4, true), read(3, 15, 1), drop(15, 1))
	talliesAre(t, c, func(x *api.Tally) { *x = sums; x.Demand += 2; x.Missed++; x.Hits++ })
}

// streamIs tells the pace of the one stream that there is.
func streamIs(t *testing.T, c *cache.Cache, want api.Flow) {
	t.Helper()
	if s := c.Streams(); len(s) != 1 || s[0].Flow != want {
		t.Errorf("Streams: %+v, not %+v", s, want)
	}
}
