package cache_test

import (
	"fmt"
	"math"
	"reflect"
	"slices"
	"testing"

	"forerunner/api"
	"forerunner/ask"
	"forerunner/cache"
)

func read(id, first, count int) api.Op {
	return api.Op{Kind: api.OpRead, ID: id, First: first, Count: count}
}
func write(id, first int, values ...uint64) api.Op {
	return api.Op{Kind: api.OpWrite, ID: id, First: first, Values: values}
}
func drop(first, count int) api.Op { return api.Op{Kind: api.OpDrop, First: first, Count: count} }
func cancel(id int) api.Op         { return api.Op{Kind: api.OpCancel, ID: id} }
func finish(tag int, well bool) api.Op {
	return api.Op{Kind: api.OpFinish, ID: tag, Well: well}
}

func well(id int, values ...uint64) api.Answer { return api.Answer{ID: id, Values: values} }
func failed(id int) api.Answer                 { return api.Answer{ID: id, Code: api.Failed} }
func cancelled(id int) api.Answer              { return api.Answer{ID: id, Code: api.Cancelled} }

func access(first, count, id int) api.Event {
	return api.Event{Kind: api.EvAccess, Block: first, Count: count, Stream: id}
}
func hit(block, list int) api.Event   { return api.Event{Kind: api.EvHit, Block: block, List: list} }
func miss(block, list int) api.Event  { return api.Event{Kind: api.EvMiss, Block: block, List: list} }
func enter(block, list int) api.Event { return api.Event{Kind: api.EvEnter, Block: block, List: list} }
func ready(block int) api.Event       { return api.Event{Kind: api.EvReady, Block: block} }
func victim(block int) api.Event      { return api.Event{Kind: api.EvVictim, Block: block} }
func gone(block int) api.Event        { return api.Event{Kind: api.EvGone, Block: block} }
func ahead(block, id int) api.Event   { return api.Event{Kind: api.EvAhead, Block: block, Stream: id} }
func dropped(block, id int) api.Event { return api.Event{Kind: api.EvDrop, Block: block, Stream: id} }
func late(id int) api.Event           { return api.Event{Kind: api.EvLate, Stream: id} }
func waste(id int) api.Event          { return api.Event{Kind: api.EvWaste, Stream: id} }

// usual are the usual options of a disk of 20 blocks, but for what is turned.
func usual(t *testing.T, turn ...func(o *api.Options)) api.Options {
	t.Helper()
	o, code := ask.Usual(20)
	if code != api.OK {
		t.Fatalf("Usual: %d", code)
	}
	for _, f := range turn {
		f(&o)
	}
	return o
}

// made is a cache of options that may be.
func made(t *testing.T, o api.Options, first ...uint64) *cache.Cache {
	t.Helper()
	c, code := cache.New(o, first)
	if code != api.OK || c == nil {
		t.Fatalf("New(%+v): %v %d", o, c, code)
	}
	return c
}

// tens are values of a disk's first blocks, each its block and 100.
func tens(blocks int) []uint64 {
	values := make([]uint64, blocks)
	for i := range values {
		values[i] = uint64(100 + i)
	}
	return values
}

// of is a cache of a disk of 20 blocks, which have 100 to 119, of the usual options, but for what is turned.
func of(t *testing.T, turn ...func(o *api.Options)) *cache.Cache {
	t.Helper()
	return made(t, usual(t, turn...), tens(20)...)
}

// does tells that an operation is done, and what answers come.
func does(t *testing.T, c *cache.Cache, op api.Op, want ...api.Answer) {
	t.Helper()
	if code, answers := c.Step(op); code != api.OK || fmt.Sprint(answers) != fmt.Sprint(want) {
		t.Fatalf("Step(%+v): %d %v, not %d %v", op, code, answers, api.OK, want)
	}
}

// all lets operations be done that are answered by and by.
func all(t *testing.T, c *cache.Cache, ops ...api.Op) {
	t.Helper()
	for _, op := range ops {
		if code, _ := c.Step(op); code != api.OK {
			t.Fatalf("Step(%+v): %d", op, code)
		}
	}
}

// refused tells that an operation is refused, and that it changes nothing; of a read that counts, but what is counted.
func refused(t *testing.T, c *cache.Cache, op api.Op, want api.Code) {
	t.Helper()
	sums, before, trace := c.Tally(), state(c, 20), c.Trace()
	code, answers := c.Step(op)
	if code != want || len(answers) != 0 {
		t.Errorf("Step(%+v): %d %v, not %d", op, code, answers, want)
	}
	counts := op.Kind == api.OpRead && code != api.Arg && code != api.Range
	if counts {
		n := uint64(op.Count)
		talliesAre(t, c, func(x *api.Tally) { *x = sums; x.Demand += n; x.Refused += n })
	}
	if after := state(c, 20); after != before && !counts || !slices.Equal(c.Trace(), trace) {
		t.Errorf("Step(%+v), which is refused:\n%s, not\n%s", op, after, before)
	}
}

// talliesAre tells what is counted.
func talliesAre(t *testing.T, c *cache.Cache, fill func(x *api.Tally)) {
	t.Helper()
	var want api.Tally
	fill(&want)
	if got := c.Tally(); got != want {
		t.Errorf("Tally: %+v, not %+v", got, want)
	}
}

func loadIs(t *testing.T, c *cache.Cache, want api.Load) {
	t.Helper()
	if got := c.Load(); got != want {
		t.Errorf("Load: %+v, not %+v", got, want)
	}
}

// outIs tells what is outstanding: of each command "r" or "w", its tag, and its blocks.
func outIs(t *testing.T, c *cache.Cache, want ...string) {
	t.Helper()
	var got []string
	for _, cmd := range c.Out() {
		kind := "r"
		if cmd.Write {
			kind = "w"
		}
		got = append(got, fmt.Sprintf("%s%d:%d+%d%v", kind, cmd.Tag, cmd.First, cmd.Count, cmd.Values))
	}
	if fmt.Sprint(got) != fmt.Sprint(want) {
		t.Errorf("Out: %v, not %v", got, want)
	}
}

// traceIs tells what events came behind so many.
func traceIs(t *testing.T, c *cache.Cache, from int, want ...api.Event) {
	t.Helper()
	if got := c.Trace()[from:]; !slices.Equal(got, want) {
		t.Errorf("Trace:\n%+v, not\n%+v", got, want)
	}
}

func cachedIs(t *testing.T, c *cache.Cache, block int, want uint64) {
	t.Helper()
	if got, ok := c.Cached(block); got != want || !ok {
		t.Errorf("Cached(%d): %d %v, not %d", block, got, ok, want)
	}
}

func notCached(t *testing.T, c *cache.Cache, blocks ...int) {
	t.Helper()
	for _, block := range blocks {
		if got, ok := c.Cached(block); got != 0 || ok {
			t.Errorf("Cached(%d): %d %v", block, got, ok)
		}
	}
}

func listsAre(t *testing.T, c *cache.Cache, seq, rand, held []int) {
	t.Helper()
	if p := c.Policy(); !slices.Equal(p.Lists[0], seq) || !slices.Equal(p.Lists[1], rand) || !slices.Equal(p.Held, held) {
		t.Errorf("Policy: %v, not %v %v, held %v", p, seq, rand, held)
	}
}

// P20.1: New.

func TestTheExample(t *testing.T) {
	c := made(t, usual(t), 7)
	does(t, c, read(1, 0, 1))
	outIs(t, c, "r1:0+1[]")
	does(t, c, finish(1, true), well(1, 7))
	does(t, c, read(2, 0, 1), well(2, 7))
	outIs(t, c)
}

func TestNewOfOptionsThatMayNotBe(t *testing.T) {
	good := usual(t)
	for field := range reflect.TypeOf(good).NumField() {
		for _, n := range []int{-1, 257, math.MaxInt, math.MinInt} {
			o := good
			reflect.ValueOf(&o).Elem().Field(field).SetInt(int64(n))
			if c, code := cache.New(o, nil); c != nil || code != api.Arg {
				t.Errorf("New(%+v): %v %d", o, c, code)
			}
		}
	}
	o := good
	o.Bottom = 9
	if c, code := cache.New(o, nil); c != nil || code != api.Arg {
		t.Errorf("a bottom above the frames: %v %d", c, code)
	}
	if c, code := cache.New(api.Options{}, nil); c != nil || code != api.Arg {
		t.Errorf("no options: %v %d", c, code)
	}
}

func TestNewOfTooManyNumbers(t *testing.T) {
	o := usual(t)
	for n := range 21 {
		c := made(t, o, tens(n)...)
		want := append(tens(n), make([]uint64, 20-n)...)
		if !slices.Equal(c.Disk(), want) {
			t.Errorf("of %d numbers: %v", n, c.Disk())
		}
	}
	for _, n := range []int{21, 22, 300} {
		if c, code := cache.New(o, tens(n)); c != nil || code != api.Arg {
			t.Errorf("of %d numbers: %v %d", n, c, code)
		}
	}
}

// TestNewOfTheLeastAndTheGreatest: options at both ends make caches that do what they are to do.
func TestNewOfTheLeastAndTheGreatest(t *testing.T) {
	least := api.Options{Blocks: 1, Frames: 1, Bottom: 1, Demand: 1, Out: 1, Span: 1, Tries: 1, Requests: 1, Waiters: 1, Streams: 1, Table: 1, Life: 1, Degree: 1}
	c := made(t, least, 9)
	does(t, c, read(1, 0, 1))
	does(t, c, finish(1, true), well(1, 9))
	does(t, c, write(1, 0, 8))
	does(t, c, finish(2, true), well(1))
	does(t, c, read(1, 0, 1), well(1, 8))

	greatest := api.Options{Blocks: 256, Frames: 64, Bottom: 64, Demand: 64, Ahead: 64, Out: 16, Span: 8, Tries: 8, Requests: 16, Waiters: 64, Streams: 16, Table: 32, Life: 64, Degree: 16}
	c = made(t, greatest, tens(256)...)
	for at := range 8 {
		does(t, c, read(1+at, at*32, 8))
	}
	loadIs(t, c, api.Load{Tickets: 64, Waiters: 64, Out: 8, Pending: 8, Demand: 64, Frames: [4]int{0, 64, 0, 0}, Pins: 128})
	for at := range 8 {
		first := at * 32
		does(t, c, finish(1+at, true), well(1+at, tens(256)[first:first+8]...))
	}
	loadIs(t, c, api.Load{Frames: [4]int{0, 0, 64, 0}})
}

func TestNewKeepsNothing(t *testing.T) {
	first := tens(3)
	c := made(t, usual(t), first...)
	clear(first)
	does(t, c, read(1, 0, 3))
	does(t, c, finish(1, true), well(1, 100, 101, 102))
	first = tens(3)
	made(t, usual(t), first[:2]...)
	if !slices.Equal(first, tens(3)) {
		t.Errorf("what was handed in is changed: %v", first)
	}
}

func TestAtFirstThereIsNothing(t *testing.T) {
	c := of(t)
	loadIs(t, c, api.Load{Frames: [4]int{8, 0, 0, 0}})
	talliesAre(t, c, func(*api.Tally) {})
	traceIs(t, c, 0)
	listsAre(t, c, nil, nil, nil)
	outIs(t, c)
	if len(c.Streams()) != 0 || len(c.Pending()) != 0 {
		t.Errorf("streams %v, pending %v", c.Streams(), c.Pending())
	}
	for block := range 20 {
		notCached(t, c, block)
	}
}

// P20.1: what is refused.

func TestWhatIsNoOperation(t *testing.T) {
	c := of(t)
	all(t, c, read(1, 0, 2), write(2, 4, 5))
	for _, op := range []api.Op{
		{}, {Kind: 6, ID: 1}, {Kind: -1, ID: 1}, {Kind: math.MaxInt}, {Kind: math.MinInt},
		read(0, 0, 1), read(-1, 0, 1), read(math.MinInt, 0, 1), read(3, 0, 0), read(3, 0, 9), read(3, 0, -1), read(3, 0, math.MaxInt),
		{Kind: api.OpRead, ID: 3, Count: 1, Well: true}, {Kind: api.OpRead, ID: 3, Count: 1, Values: []uint64{1}},
		write(3, 0), write(3, 0, tens(9)...), write(0, 0, 1), {Kind: api.OpWrite, ID: 3, Count: 1, Values: []uint64{1}},
		drop(0, 0), drop(0, 9), {Kind: api.OpDrop, ID: 1, Count: 1},
		cancel(0), cancel(-1), {Kind: api.OpCancel, ID: 1, Well: true}, {Kind: api.OpCancel, ID: 1, Count: 1}, {Kind: api.OpCancel, ID: 1, First: 1},
		finish(0, true), finish(-1, false), {Kind: api.OpFinish, ID: 1, Count: 1}, {Kind: api.OpFinish, ID: 1, Values: []uint64{1}},
	} {
		refused(t, c, op, api.Arg)
	}
}

func TestWhatIsBeyondTheDisk(t *testing.T) {
	c := of(t)
	all(t, c, read(1, 0, 2))
	for _, op := range []api.Op{
		read(3, 20, 1), read(3, 19, 2), read(3, -1, 1), read(3, math.MaxInt, 8), read(3, math.MinInt, 1),
		write(3, 20, 1), write(3, 18, 1, 2, 3), write(3, -1, 1, 2), drop(20, 1), drop(13, 8), drop(-1, 1), drop(math.MaxInt, 1),
	} {
		refused(t, c, op, api.Range)
	}
	does(t, c, read(3, 18, 2))
}

// TestArgAndRangeGoFirst: what no disk has done, or this one can't, isn't asked for more.
func TestArgAndRangeGoFirst(t *testing.T) {
	c := of(t, func(o *api.Options) { o.Requests, o.Demand = 1, 1 })
	all(t, c, read(1, 0, 1))
	refused(t, c, read(1, 0, 9), api.Arg)
	refused(t, c, read(1, 19, 2), api.Range)
	refused(t, c, write(1, 0), api.Arg)
	refused(t, c, write(1, 19, 1, 2), api.Range)
}

// TestExistsThenFullThenBusy: of several codes it is the first one.
func TestExistsThenFullThenBusy(t *testing.T) {
	c := of(t, func(o *api.Options) { o.Requests, o.Demand = 2, 2 })
	all(t, c, read(1, 0, 2))
	refused(t, c, read(1, 5, 1), api.Exists)
	refused(t, c, write(1, 5, 7), api.Exists)
	refused(t, c, read(2, 5, 1), api.Busy)
	refused(t, c, write(2, 5, 7), api.Busy)
	all(t, c, read(2, 0, 2))
	refused(t, c, read(2, 5, 1), api.Exists)
	refused(t, c, write(1, 5, 7), api.Exists)
	refused(t, c, read(3, 5, 1), api.Full)
	refused(t, c, read(3, 0, 1), api.Full)
	refused(t, c, write(3, 5, 7), api.Full)
	does(t, c, finish(1, true), well(1, 100, 101), well(2, 100, 101))
	// Nothing is pending any more, so that numbers come again; each hit is answered at once, so that there is always room for one more.
	for range 5 {
		does(t, c, read(1, 0, 2), well(1, 100, 101))
	}
}

// TestAHitIsFullToo: a request that would be answered at once can't begin either, if as many are pending as may be.
func TestAHitIsFullToo(t *testing.T) {
	c := of(t, func(o *api.Options) { o.Requests = 1 })
	all(t, c, read(1, 0, 1), finish(1, true), read(1, 9, 1))
	refused(t, c, read(2, 0, 1), api.Full)
	refused(t, c, read(1, 0, 1), api.Exists)
	all(t, c, cancel(1))
	does(t, c, read(2, 0, 1), well(2, 100))
}

func TestARefusedReadCounts(t *testing.T) {
	c := of(t, func(o *api.Options) { o.Requests = 1 })
	all(t, c, read(1, 0, 3))
	refused(t, c, read(1, 4, 2), api.Exists)
	refused(t, c, read(2, 4, 5), api.Full)
	refused(t, c, read(2, 20, 1), api.Range)
	refused(t, c, read(2, 0, 9), api.Arg)
	refused(t, c, write(2, 4, 1, 2), api.Full)
	talliesAre(t, c, func(x *api.Tally) { x.Demand, x.Missed, x.Refused = 10, 3, 7 })
}

// TestARefusedReadIsNoAccess: the tracker doesn't hear of it, so that who reads behind it isn't expected.
func TestARefusedReadIsNoAccess(t *testing.T) {
	c := of(t, func(o *api.Options) { o.Demand = 1 })
	all(t, c, read(1, 0, 1))
	refused(t, c, read(2, 5, 1), api.Busy)
	all(t, c, finish(1, true), read(2, 6, 1))
	if len(c.Streams()) != 0 {
		t.Errorf("Streams: %v", c.Streams())
	}
	traceIs(t, c, 4, access(6, 1, 0), miss(6, api.Rand), enter(6, api.Rand))
}

// TestPlacesThatAReadNeeds: as many as are missed, or are asked for ahead; none for a hit, or for what is read already.
func TestPlacesThatAReadNeeds(t *testing.T) {
	few := func(demand int) *cache.Cache {
		c := of(t, func(o *api.Options) { o.Demand = demand })
		all(t, c, read(1, 2, 1), finish(1, true), read(1, 5, 1))
		return c
	}
	c := few(2)
	does(t, c, read(2, 2, 1), well(2, 102))
	does(t, c, read(2, 5, 1))
	refused(t, c, read(3, 6, 2), api.Busy)
	refused(t, c, read(3, 9, 2), api.Busy)
	does(t, c, read(3, 2, 2))
	refused(t, c, read(4, 9, 1), api.Busy)
	refused(t, c, read(4, 2, 3), api.Busy)
	does(t, c, read(4, 2, 2))
	c = few(3)
	refused(t, c, read(2, 2, 5), api.Busy)
	does(t, c, read(2, 2, 4))

	// Block 2 is asked for ahead, behind what is out.
	c = of(t, func(o *api.Options) { o.Demand, o.Out, o.Span = 2, 1, 1 })
	all(t, c, read(1, 0, 1), read(2, 1, 1))
	loadIs(t, c, api.Load{Tickets: 3, Waiters: 2, Loose: 1, Out: 1, Pending: 2, Demand: 2, Ahead: 1, Frames: [4]int{7, 1, 0, 0}, Pins: 2, Flight: 1})
	refused(t, c, read(3, 2, 1), api.Busy)
	all(t, c, finish(1, true), read(3, 2, 1))
	// It is a demand now; 3 and 4 are asked for ahead.
	loadIs(t, c, api.Load{Tickets: 4, Waiters: 2, Loose: 2, Out: 1, Pending: 2, Demand: 2, Ahead: 2, Frames: [4]int{6, 1, 1, 0}, Pins: 2, Flight: 2})
}

// TestRoomThatAReadNeeds: for each block that isn't a hit.
func TestRoomThatAReadNeeds(t *testing.T) {
	c := of(t, func(o *api.Options) { o.Waiters = 3 })
	all(t, c, read(1, 2, 1), finish(1, true), read(1, 5, 1))
	refused(t, c, read(2, 5, 3), api.Busy)
	does(t, c, read(2, 5, 2))
	refused(t, c, read(3, 5, 1), api.Busy)
	refused(t, c, read(3, 2, 2), api.Busy)
	does(t, c, read(3, 2, 1), well(3, 102))
	does(t, c, finish(2, true), well(1, 105))
	does(t, c, read(1, 5, 2))
}

func TestRoomAndPlacesThatAWriteNeeds(t *testing.T) {
	c := of(t, func(o *api.Options) { o.Demand = 3 })
	refused(t, c, write(1, 0, 1, 2, 3, 4), api.Busy)
	does(t, c, write(1, 0, 1, 2, 3))
	refused(t, c, write(2, 0, 9), api.Busy)
	c = of(t, func(o *api.Options) { o.Waiters = 3 })
	refused(t, c, write(1, 0, 1, 2, 3, 4), api.Busy)
	does(t, c, write(1, 0, 1, 2, 3))
	refused(t, c, write(2, 0, 9), api.Busy)
	talliesAre(t, c, func(*api.Tally) {})
}

func TestWhatIsNotThere(t *testing.T) {
	c := of(t)
	refused(t, c, cancel(1), api.NotFound)
	refused(t, c, finish(1, true), api.NotFound)
	all(t, c, read(5, 0, 1))
	refused(t, c, cancel(1), api.NotFound)
	refused(t, c, finish(5, true), api.NotFound)
	refused(t, c, finish(2, false), api.NotFound)
	all(t, c, finish(1, true))
	refused(t, c, cancel(5), api.NotFound)
	refused(t, c, finish(1, true), api.NotFound)
	refused(t, c, finish(math.MaxInt, false), api.NotFound)
}

func TestAStepKeepsNothing(t *testing.T) {
	c := of(t, func(o *api.Options) { o.Out = 1 })
	values := []uint64{7, 8, 9}
	does(t, c, write(1, 0, values[:2]...))
	does(t, c, write(2, 5, values...))
	if !slices.Equal(values, []uint64{7, 8, 9}) {
		t.Errorf("what was handed in is changed: %v", values)
	}
	clear(values)
	does(t, c, finish(1, true), well(1))
	does(t, c, finish(2, true), well(2))
	if d := c.Disk(); !slices.Equal(d[:8], []uint64{7, 8, 102, 103, 104, 7, 8, 9}) {
		t.Errorf("Disk: %v", d)
	}
}

// P20.2, P20.3: what is told.

func TestOutIsByWhenItWasSubmitted(t *testing.T) {
	c := of(t, func(o *api.Options) { o.Tries = 2 })
	all(t, c, read(1, 9, 1), read(2, 3, 2), write(3, 0, 5, 6))
	outIs(t, c, "r1:9+1[]", "r2:3+2[]", "w3:0+2[5 6]")
	does(t, c, finish(1, false))
	outIs(t, c, "r2:3+2[]", "w3:0+2[5 6]", "r4:9+1[]")
	does(t, c, finish(3, true), well(3))
	outIs(t, c, "r2:3+2[]", "r4:9+1[]")
}

func TestDiskHasWhatWasWritten(t *testing.T) {
	c := of(t)
	all(t, c, write(1, 0, 5, 6), write(2, 19, 7))
	if !slices.Equal(c.Disk(), tens(20)) {
		t.Errorf("ahead of the ends: %v", c.Disk())
	}
	all(t, c, finish(1, true), finish(2, false))
	if d := c.Disk(); d[0] != 5 || d[1] != 6 || d[19] != 119 || len(d) != 20 {
		t.Errorf("behind them: %v", d)
	}
}

func TestCached(t *testing.T) {
	c := of(t)
	all(t, c, read(1, 3, 2))
	notCached(t, c, 2, 3, 4, 5)
	all(t, c, finish(1, true))
	notCached(t, c, 2, 5)
	cachedIs(t, c, 3, 103)
	cachedIs(t, c, 4, 104)
	notCached(t, c, -1, 20, 127, 128, 3+128, math.MaxInt, math.MinInt)
	all(t, c, drop(4, 1))
	notCached(t, c, 4)
}

func TestPendingIsRising(t *testing.T) {
	c := of(t)
	all(t, c, read(7, 0, 1), write(2, 5, 1), read(300, 9, 1), read(4, 0, 1))
	if p := c.Pending(); !slices.Equal(p, []int{2, 4, 7, 300}) {
		t.Errorf("Pending: %v", p)
	}
	all(t, c, finish(1, true), cancel(300))
	if p := c.Pending(); !slices.Equal(p, []int{2}) {
		t.Errorf("Pending: %v", p)
	}
}

// TestPolicyIsByBlocks: by blocks in the place of frames, whichever frames they have.
func TestPolicyIsByBlocks(t *testing.T) {
	c := of(t, func(o *api.Options) { o.Frames, o.Span = 4, 1 })
	all(t, c, read(1, 12, 1), read(2, 4, 1), read(3, 19, 1))
	listsAre(t, c, nil, []int{19, 4, 12}, []int{4, 12, 19})
	all(t, c, finish(1, true), drop(12, 1), read(4, 0, 1))
	listsAre(t, c, nil, []int{0, 19, 4}, []int{0, 4, 19})
	all(t, c, finish(4, true), finish(2, true), read(5, 1, 1))
	listsAre(t, c, []int{2, 1}, []int{0, 19}, []int{1, 2, 19})
	if p := c.Policy(); p.Want != 1 || p.Miss != 1 || p.Hits != 0 {
		t.Errorf("Policy: %+v", p)
	}
}

func TestStreamsAreTheTrackers(t *testing.T) {
	c := of(t)
	all(t, c, read(1, 5, 1), read(2, 6, 1), read(3, 7, 1))
	want := api.Stream{ID: 1, Flow: api.Flow{Next: 8, Ahead: 10, P: 2, G: 1}, Used: 3}
	if s := c.Streams(); !slices.Equal(s, []api.Stream{want}) {
		t.Errorf("Streams: %+v", s)
	}
}

// TestTheTrackerIsOfTheOptions: each of its options says what it says.
func TestTheTrackerIsOfTheOptions(t *testing.T) {
	ops := []api.Op{read(1, 0, 1), read(2, 10, 1), read(3, 1, 1), read(4, 11, 1), read(5, 2, 1)}
	ids := func(turn func(o *api.Options)) (found []int) {
		c := of(t, turn)
		all(t, c, ops...)
		for _, s := range c.Streams() {
			found = append(found, s.ID)
		}
		return found
	}
	for _, the := range []struct {
		turn func(o *api.Options)
		want []int
	}{
		{func(*api.Options) {}, []int{1, 2}},
		{func(o *api.Options) { o.Streams = 1 }, []int{2}},
		{func(o *api.Options) { o.Table = 1 }, nil},
		{func(o *api.Options) { o.Life = 1 }, nil},
	} {
		if got := ids(the.turn); !slices.Equal(got, the.want) {
			t.Errorf("%+v: streams %v, not %v", usual(t, the.turn), got, the.want)
		}
	}
	c := of(t, func(o *api.Options) { o.Degree = 1 })
	all(t, c, read(1, 0, 1), read(2, 1, 1), read(3, 2, 1), read(4, 3, 1))
	talliesAre(t, c, func(x *api.Tally) { x.Demand, x.Missed, x.Merged, x.Issued, x.Used = 4, 2, 2, 3, 2 })
}

// TestWhatIsToldIsMemoryOfItsOwn: who writes over what was told changes nothing.
func TestWhatIsToldIsMemoryOfItsOwn(t *testing.T) {
	c := of(t)
	all(t, c, read(1, 5, 1), read(2, 6, 1), write(3, 0, 1, 2), finish(1, true), read(4, 12, 1))
	before, trace := state(c, 20), c.Trace()
	for range 2 {
		p := c.Policy()
		for _, l := range [][]int{p.Lists[0], p.Lists[1], p.Held, c.Pending()} {
			for i := range l {
				l[i] = 99
			}
			_ = append(l, 98)
		}
		for _, cmd := range c.Out() {
			clear(cmd.Values)
		}
		clear(c.Out())
		clear(c.Disk())
		clear(c.Streams())
		clear(c.Trace())
		_ = append(c.Trace(), gone(5))
		if after := state(c, 20); after != before || !slices.Equal(c.Trace(), trace) {
			t.Fatalf("it has changed:\n%s, not\n%s", after, before)
		}
	}
	_, answers := c.Step(read(9, 5, 1))
	answers[0].Values[0] = 1
	does(t, c, read(9, 5, 1), well(9, 105))
}

// TestWhatWasToldStays: what the cache does later changes nothing of it.
func TestWhatWasToldStays(t *testing.T) {
	c := of(t)
	all(t, c, read(1, 5, 1), read(2, 6, 1))
	_, answers := c.Step(finish(1, true))
	p, streams, trace, out, disk, pending := c.Policy(), c.Streams(), c.Trace(), c.Out(), c.Disk(), c.Pending()
	was := fmt.Sprint(answers, p, streams, trace, out, disk, pending)
	all(t, c, write(3, 5, 1, 2), read(4, 7, 1), finish(2, true), finish(3, true), drop(0, 8), read(1, 5, 1), cancel(1))
	if now := fmt.Sprint(answers, p, streams, trace, out, disk, pending); now != was {
		t.Errorf("it has changed:\n%s, not\n%s", now, was)
	}
}

func TestCachesAreApart(t *testing.T) {
	o := usual(t)
	a, b := made(t, o, 7), made(t, o, 7)
	before := state(b, 20)
	all(t, a, read(1, 0, 1), read(2, 1, 1), write(3, 5, 9), finish(1, true), drop(0, 1))
	if after := state(b, 20); after != before || len(b.Trace()) > 0 {
		t.Errorf("what is done to one is seen in the other:\n%s, not\n%s", after, before)
	}
	refused(t, b, finish(2, true), api.NotFound)
	does(t, b, read(1, 0, 1))
	does(t, b, finish(1, true), well(1, 7))
}
