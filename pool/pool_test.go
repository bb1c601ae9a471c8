package pool_test

import (
	"math"
	"testing"

	"forerunner/api"
	"forerunner/pool"
)

func made(t *testing.T, frames int) *pool.Pool {
	t.Helper()
	p, code := pool.New(frames)
	if code != api.OK || p == nil {
		t.Fatalf("New(%d): %v %d", frames, p, code)
	}
	return p
}

func take(t *testing.T, p *pool.Pool, block, i int, code api.Code) {
	t.Helper()
	if got, gotCode := p.Take(block); got != i || gotCode != code {
		t.Fatalf("Take(%d): %d %d, not %d %d", block, got, gotCode, i, code)
	}
}

func told(t *testing.T, what string, got, want api.Code) {
	t.Helper()
	if got != want {
		t.Fatalf("%s: %d, not %d", what, got, want)
	}
}

func frameIs(t *testing.T, p *pool.Pool, i int, want api.Frame) {
	t.Helper()
	if got, ok := p.Frame(i); got != want || !ok {
		t.Fatalf("Frame(%d): %v %v, not %v", i, got, ok, want)
	}
}

// look is all that a pool tells.
type look struct {
	frames [api.MaxFrames]api.Frame
	count  [4]int
	pins   int
}

func lookAt(p *pool.Pool) look {
	l := look{count: p.Count(), pins: p.Pins()}
	for i := range l.frames {
		l.frames[i], _ = p.Frame(i)
	}
	return l
}

// outside are places where a pool of so many frames has none.
func outside(frames int) []int {
	return []int{-1, frames, frames + 1, 64, math.MinInt, math.MaxInt, -math.MaxInt}
}

// The places of the frames of every, by what they are.
const (
	free = iota // it was never taken
	filling
	fillingPinned
	valid
	validPinned
	doomed       // it was filling, and has one pin
	doomedPinned // it was valid, and has two
	freeAgain    // it was taken twice
	frames
)

// every is a pool with a frame of each kind; those that were taken are of generation 2.
func every(t *testing.T) *pool.Pool {
	t.Helper()
	p := made(t, frames)
	for i := range frames {
		take(t, p, 90+i, i, api.OK)
	}
	for i := range frames {
		told(t, "Doom", p.Doom(i), api.OK)
	}
	for i := range frames {
		take(t, p, 10+i, i, api.OK)
	}
	for _, i := range []int{valid, validPinned, doomedPinned} {
		told(t, "Fill", p.Fill(i, uint64(100+i)), api.OK)
	}
	for _, i := range []int{fillingPinned, validPinned, validPinned, doomed, doomedPinned, doomedPinned} {
		told(t, "Pin", p.Pin(i, 2), api.OK)
	}
	for _, i := range []int{free, doomed, doomedPinned, freeAgain} {
		told(t, "Doom", p.Doom(i), api.OK)
	}
	return p
}

// inEvery are the frames of every, by their places.
func inEvery() [frames]api.Frame {
	return [frames]api.Frame{
		free:          {Gen: 2},
		filling:       {State: api.Filling, Block: 11, Gen: 2},
		fillingPinned: {State: api.Filling, Block: 12, Gen: 2, Pins: 1},
		valid:         {State: api.Valid, Block: 13, Gen: 2, Value: 103},
		validPinned:   {State: api.Valid, Block: 14, Gen: 2, Pins: 2, Value: 104},
		doomed:        {State: api.Doomed, Block: 15, Gen: 2, Pins: 1},
		doomedPinned:  {State: api.Doomed, Block: 16, Gen: 2, Pins: 2, Value: 106},
		freeAgain:     {Gen: 2},
	}
}

func TestFramesOfEveryKind(t *testing.T) {
	p := every(t)
	for i, want := range inEvery() {
		frameIs(t, p, i, want)
	}
	if got := p.Count(); got != [4]int{2, 2, 2, 2} {
		t.Errorf("Count: %v", got)
	}
	if got := p.Pins(); got != 6 {
		t.Errorf("Pins: %d", got)
	}
}

// onEach asks for the same of each frame of a pool of every kind, and holds against what is wanted of it what is told, and what the frame is behind it. Where a code is wanted, nothing may have changed; no other frame may, in any case.
func onEach(t *testing.T, what string, do func(p *pool.Pool, i int) api.Code, codes [frames]api.Code, become func(f api.Frame) api.Frame) {
	t.Helper()
	for i, code := range codes {
		p := every(t)
		want := inEvery()
		if got := do(p, i); got != code {
			t.Errorf("%s of frame %d: %d, not %d", what, i, got, code)
		}
		if code == api.OK {
			want[i] = become(want[i])
		}
		for j, f := range want {
			if got, ok := p.Frame(j); got != f || !ok {
				t.Errorf("%s of frame %d: frame %d is %v, not %v", what, i, j, got, f)
			}
		}
	}
}

// outsideIsArg asks for the same of places where there is no frame.
func outsideIsArg(t *testing.T, what string, do func(p *pool.Pool, i int) api.Code) {
	t.Helper()
	p := every(t)
	before := lookAt(p)
	for _, i := range outside(frames) {
		if got := do(p, i); got != api.Arg {
			t.Errorf("%s of frame %d: %d, not %d", what, i, got, api.Arg)
		}
	}
	if lookAt(p) != before {
		t.Errorf("%s where there is no frame: it changed the pool", what)
	}
}

// P4.1: a pool is made, frames are taken and filled.

func TestNew(t *testing.T) {
	for _, c := range []struct {
		frames int
		code   api.Code
	}{
		{1, api.OK}, {2, api.OK}, {63, api.OK}, {64, api.OK},
		{65, api.Arg}, {0, api.Arg}, {-1, api.Arg}, {-64, api.Arg}, {math.MinInt, api.Arg}, {math.MaxInt, api.Arg}, {1 << 32, api.Arg}, {1<<32 + 1, api.Arg},
	} {
		p, code := pool.New(c.frames)
		if code != c.code || (p == nil) != (c.code != api.OK) {
			t.Errorf("New(%d): %v %d, not %d", c.frames, p, code, c.code)
			continue
		}
		if p == nil {
			continue
		}
		if got := lookAt(p); got != (look{count: [4]int{c.frames}}) {
			t.Errorf("New(%d): %v", c.frames, got)
		}
		for i := range c.frames {
			frameIs(t, p, i, api.Frame{})
		}
		for _, i := range outside(c.frames) {
			if f, ok := p.Frame(i); ok || f != (api.Frame{}) {
				t.Errorf("New(%d): Frame(%d): %v %v", c.frames, i, f, ok)
			}
		}
		for i := range c.frames {
			take(t, p, i, i, api.OK)
		}
		take(t, p, 0, 0, api.Full)
	}
}

func TestPoolsAreApart(t *testing.T) {
	p, other := made(t, 2), made(t, 2)
	take(t, p, 7, 0, api.OK)
	told(t, "Pin", p.Pin(0, 1), api.OK)
	if got := lookAt(other); got != (look{count: [4]int{2}}) {
		t.Errorf("the other one: %v", got)
	}
}

func TestTake(t *testing.T) {
	p := made(t, 4)
	for i, block := range []int{5, 0, 5, math.MaxInt} { // two frames of one block are no concern of a pool's
		take(t, p, block, i, api.OK)
		frameIs(t, p, i, api.Frame{State: api.Filling, Block: block, Gen: 1})
	}
	for _, i := range []int{3, 1, 2} {
		told(t, "Doom", p.Doom(i), api.OK)
	}
	// The least one, not the one that was free first or last.
	take(t, p, 6, 1, api.OK)
	frameIs(t, p, 1, api.Frame{State: api.Filling, Block: 6, Gen: 2})
	take(t, p, 7, 2, api.OK)
	told(t, "Doom", p.Doom(0), api.OK)
	take(t, p, 8, 0, api.OK)
	take(t, p, 9, 3, api.OK)
	frameIs(t, p, 3, api.Frame{State: api.Filling, Block: 9, Gen: 2})
	take(t, p, 9, 0, api.Full)
}

func TestTakeWhatMayNotBe(t *testing.T) {
	p := made(t, 1)
	for _, block := range []int{-1, -2, math.MinInt} {
		take(t, p, block, 0, api.Arg)
		frameIs(t, p, 0, api.Frame{})
	}
	take(t, p, 3, 0, api.OK)
	for _, c := range []struct {
		block int
		code  api.Code
	}{{0, api.Full}, {3, api.Full}, {math.MaxInt, api.Full}, {-1, api.Arg}, {math.MinInt, api.Arg}} { // Arg ahead of Full
		take(t, p, c.block, 0, c.code)
		frameIs(t, p, 0, api.Frame{State: api.Filling, Block: 3, Gen: 1})
	}
}

func TestTakeIsFullWhateverTheFramesAre(t *testing.T) {
	p := made(t, 3)
	for i := range 3 {
		take(t, p, i, i, api.OK)
	}
	told(t, "Fill", p.Fill(0, 7), api.OK)
	told(t, "Pin", p.Pin(2, 1), api.OK)
	told(t, "Doom", p.Doom(2), api.OK)
	before := lookAt(p)
	take(t, p, 9, 0, api.Full)
	if lookAt(p) != before {
		t.Errorf("a frame was taken of a pool that is full: %v", lookAt(p))
	}
	told(t, "Unpin", p.Unpin(2, 1), api.OK)
	take(t, p, 9, 2, api.OK)
}

func TestFill(t *testing.T) {
	codes := [frames]api.Code{free: api.Busy, doomed: api.Busy, doomedPinned: api.Busy, freeAgain: api.Busy}
	for _, value := range []uint64{0, 1, 7, 1 << 63, math.MaxUint64} {
		fill := func(p *pool.Pool, i int) api.Code { return p.Fill(i, value) }
		onEach(t, "Fill", fill, codes, func(f api.Frame) api.Frame {
			f.State, f.Value = api.Valid, value
			return f
		})
		outsideIsArg(t, "Fill", fill)
	}
}

func TestFillAgain(t *testing.T) {
	p := made(t, 2)
	take(t, p, 4, 0, api.OK)
	for _, value := range []uint64{5, 6, 0, 6} {
		told(t, "Fill", p.Fill(0, value), api.OK)
		frameIs(t, p, 0, api.Frame{State: api.Valid, Block: 4, Gen: 1, Value: value})
	}
}

// P4.2: a frame is pinned and unpinned.

func TestPin(t *testing.T) {
	pin := func(gen int) func(p *pool.Pool, i int) api.Code {
		return func(p *pool.Pool, i int) api.Code { return p.Pin(i, gen) }
	}
	codes := [frames]api.Code{free: api.NotFound, doomed: api.Busy, doomedPinned: api.Busy, freeAgain: api.NotFound}
	onEach(t, "Pin", pin(2), codes, func(f api.Frame) api.Frame {
		f.Pins++
		return f
	})
	otherGenerations(t, "Pin", pin)
}

func TestUnpin(t *testing.T) {
	unpin := func(gen int) func(p *pool.Pool, i int) api.Code {
		return func(p *pool.Pool, i int) api.Code { return p.Unpin(i, gen) }
	}
	codes := [frames]api.Code{free: api.NotFound, filling: api.Busy, valid: api.Busy, freeAgain: api.NotFound}
	onEach(t, "Unpin", unpin(2), codes, func(f api.Frame) api.Frame {
		f.Pins--
		if f.State == api.Doomed && f.Pins == 0 {
			return api.Frame{Gen: f.Gen}
		}
		return f
	})
	otherGenerations(t, "Unpin", unpin)
}

// otherGenerations asks for the same by generations that no frame has: NotFound, also where the frame would be Busy, but Arg where there is none.
func otherGenerations(t *testing.T, what string, by func(gen int) func(p *pool.Pool, i int) api.Code) {
	t.Helper()
	for _, gen := range []int{0, 1, 3, -1, -2, math.MinInt, math.MaxInt} {
		var codes [frames]api.Code
		for i := range codes {
			codes[i] = api.NotFound
		}
		onEach(t, what, by(gen), codes, nil)
		outsideIsArg(t, what, by(gen))
	}
	outsideIsArg(t, what, by(2))
}

func TestAFrameThatWasNeverTakenIsNotFound(t *testing.T) {
	p := made(t, 1)
	for _, gen := range []int{0, 1, -1} { // 0 is its generation
		told(t, "Pin", p.Pin(0, gen), api.NotFound)
		told(t, "Unpin", p.Unpin(0, gen), api.NotFound)
	}
	frameIs(t, p, 0, api.Frame{})
}

func TestPinsAreCounted(t *testing.T) {
	const many = 100
	p := made(t, 2)
	take(t, p, 3, 0, api.OK)
	take(t, p, 4, 1, api.OK)
	for i := range many {
		told(t, "Pin", p.Pin(0, 1), api.OK)
		if got := p.Pins(); got != i+1 {
			t.Fatalf("Pins: %d, not %d", got, i+1)
		}
		if i == 40 {
			told(t, "Fill", p.Fill(0, 9), api.OK)
		}
	}
	told(t, "Doom", p.Doom(0), api.OK)
	for i := range many - 1 {
		told(t, "Unpin", p.Unpin(0, 1), api.OK)
		frameIs(t, p, 0, api.Frame{State: api.Doomed, Block: 3, Gen: 1, Pins: many - 1 - i, Value: 9})
	}
	told(t, "Unpin", p.Unpin(0, 1), api.OK)
	frameIs(t, p, 0, api.Frame{Gen: 1})
	told(t, "Unpin", p.Unpin(0, 1), api.NotFound)
	frameIs(t, p, 1, api.Frame{State: api.Filling, Block: 4, Gen: 1})
}

func TestUnpinLeavesWhatIsNotDoomed(t *testing.T) {
	p := made(t, 1)
	take(t, p, 3, 0, api.OK)
	told(t, "Pin", p.Pin(0, 1), api.OK)
	told(t, "Unpin", p.Unpin(0, 1), api.OK)
	frameIs(t, p, 0, api.Frame{State: api.Filling, Block: 3, Gen: 1})
	told(t, "Fill", p.Fill(0, 8), api.OK)
	told(t, "Pin", p.Pin(0, 1), api.OK)
	told(t, "Unpin", p.Unpin(0, 1), api.OK)
	frameIs(t, p, 0, api.Frame{State: api.Valid, Block: 3, Gen: 1, Value: 8})
}

// P4.3: a frame is doomed; what there is.

func TestDoom(t *testing.T) {
	doom := func(p *pool.Pool, i int) api.Code { return p.Doom(i) }
	codes := [frames]api.Code{free: api.Busy, doomed: api.Busy, doomedPinned: api.Busy, freeAgain: api.Busy}
	onEach(t, "Doom", doom, codes, func(f api.Frame) api.Frame {
		if f.Pins == 0 {
			return api.Frame{Gen: f.Gen}
		}
		f.State = api.Doomed
		return f
	})
	outsideIsArg(t, "Doom", doom)
}

func TestTakenPinnedDoomedUnpinned(t *testing.T) {
	p := made(t, 1)
	take(t, p, 3, 0, api.OK)
	told(t, "Pin", p.Pin(0, 1), api.OK)
	told(t, "Doom", p.Doom(0), api.OK)
	frameIs(t, p, 0, api.Frame{State: api.Doomed, Block: 3, Gen: 1, Pins: 1})
	told(t, "Unpin", p.Unpin(0, 1), api.OK)
	frameIs(t, p, 0, api.Frame{Gen: 1})
}

func TestAFreeFrameHasNothingOfWhatItHad(t *testing.T) {
	p := made(t, 1)
	for gen := 1; gen < 20; gen++ {
		take(t, p, gen, 0, api.OK)
		frameIs(t, p, 0, api.Frame{State: api.Filling, Block: gen, Gen: gen})
		told(t, "Fill", p.Fill(0, 7), api.OK)
		if gen%2 == 0 { // it goes by its last pin, or at once
			told(t, "Pin", p.Pin(0, gen), api.OK)
		}
		told(t, "Doom", p.Doom(0), api.OK)
		if gen%2 == 0 {
			told(t, "Unpin", p.Unpin(0, gen), api.OK)
		}
		frameIs(t, p, 0, api.Frame{Gen: gen})
	}
}

func TestFrame(t *testing.T) {
	p := every(t)
	for _, i := range outside(frames) {
		if f, ok := p.Frame(i); ok || f != (api.Frame{}) {
			t.Errorf("Frame(%d): %v %v", i, f, ok)
		}
	}
	f, _ := p.Frame(valid)
	f.State, f.Pins, f.Value = api.Doomed, 9, 9
	frameIs(t, p, valid, inEvery()[valid])
}

func TestCountAndPins(t *testing.T) {
	p := made(t, 5)
	see := func(pins int, count ...int) {
		t.Helper()
		if got := p.Count(); got != [4]int(count) {
			t.Errorf("Count: %v, not %v", got, count)
		}
		if got := p.Pins(); got != pins {
			t.Errorf("Pins: %d, not %d", got, pins)
		}
	}
	see(0, 5, 0, 0, 0)
	for i := range 4 {
		take(t, p, i, i, api.OK)
	}
	see(0, 1, 4, 0, 0)
	told(t, "Fill", p.Fill(0, 7), api.OK)
	told(t, "Fill", p.Fill(1, 7), api.OK)
	told(t, "Fill", p.Fill(2, 7), api.OK)
	see(0, 1, 1, 3, 0)
	for range 3 {
		told(t, "Pin", p.Pin(0, 1), api.OK)
	}
	told(t, "Pin", p.Pin(3, 1), api.OK)
	see(4, 1, 1, 3, 0)
	told(t, "Doom", p.Doom(0), api.OK)
	told(t, "Doom", p.Doom(1), api.OK)
	told(t, "Doom", p.Doom(3), api.OK)
	see(4, 2, 0, 1, 2) // the pins of what is doomed count
	told(t, "Unpin", p.Unpin(3, 1), api.OK)
	see(3, 3, 0, 1, 1)
}

// P4.4: what follows.

func TestAFrameWithPinsKeepsItsBlockAndItsGeneration(t *testing.T) {
	for _, i := range []int{fillingPinned, validPinned, doomed, doomedPinned} {
		p := every(t)
		want := inEvery()[i]
		p.Doom(i)
		p.Fill(i, 5)
		for p.Pin(i, 3) == api.OK || p.Unpin(i, 1) == api.OK {
		}
		for n := 0; ; n++ {
			if _, code := p.Take(50 + n); code != api.OK {
				break
			}
		}
		got, _ := p.Frame(i)
		if got.Block != want.Block || got.Gen != want.Gen || got.Pins != want.Pins || got.State != api.Doomed || got.Value != want.Value {
			t.Errorf("frame %d: %v, and %v behind all that", i, want, got)
		}
	}
}

func TestWhatIsTakenAgainIsAnotherOne(t *testing.T) {
	p := made(t, 1)
	take(t, p, 3, 0, api.OK)
	told(t, "Doom", p.Doom(0), api.OK)
	take(t, p, 3, 0, api.OK)
	told(t, "Pin", p.Pin(0, 2), api.OK)
	told(t, "Pin", p.Pin(0, 1), api.NotFound)
	told(t, "Unpin", p.Unpin(0, 1), api.NotFound)
	frameIs(t, p, 0, api.Frame{State: api.Filling, Block: 3, Gen: 2, Pins: 1})
}

// model is a pool by the document's words, each frame by itself.
type model []api.Frame

func (m model) take(block int) (int, api.Code) {
	if block < 0 {
		return 0, api.Arg
	}
	for i, f := range m {
		if f.State == api.Free {
			m[i].State, m[i].Block, m[i].Gen = api.Filling, block, f.Gen+1
			return i, api.OK
		}
	}
	return 0, api.Full
}

func (m model) fill(i int, value uint64) api.Code {
	if i < 0 || i >= len(m) {
		return api.Arg
	}
	if m[i].State == api.Free || m[i].State == api.Doomed {
		return api.Busy
	}
	m[i].State, m[i].Value = api.Valid, value
	return api.OK
}

func (m model) pin(i, gen, more int) api.Code {
	switch {
	case i < 0 || i >= len(m):
		return api.Arg
	case m[i].State == api.Free || m[i].Gen != gen:
		return api.NotFound
	case more > 0 && m[i].State == api.Doomed || more < 0 && m[i].Pins == 0:
		return api.Busy
	}
	m[i].Pins += more
	if m[i].State == api.Doomed && m[i].Pins == 0 {
		m[i] = api.Frame{Gen: gen}
	}
	return api.OK
}

func (m model) doom(i int) api.Code {
	switch {
	case i < 0 || i >= len(m):
		return api.Arg
	case m[i].State == api.Free || m[i].State == api.Doomed:
		return api.Busy
	case m[i].Pins == 0:
		m[i] = api.Frame{Gen: m[i].Gen}
	default:
		m[i].State = api.Doomed
	}
	return api.OK
}

func (m model) look() look {
	var l look
	copy(l.frames[:], m)
	for _, f := range m {
		l.count[f.State]++
		l.pins += f.Pins
	}
	return l
}

// draws are numbers that look like drawn ones, but are the same each time.
type draws struct{ state uint64 }

func (d *draws) below(n int) int {
	d.state = d.state*6364136223846793005 + 1442695040888963407
	return int(d.state >> 33 % uint64(n))
}

// step does the same to a pool and to its model, and is what each told of it.
func step(d *draws, p *pool.Pool, m model) (what string, i, wantI int, code, want api.Code) {
	at := d.below(len(m)+2) - 1
	gen := d.below(3) - 1
	if at >= 0 && at < len(m) {
		gen += m[at].Gen // mostly near the one that it has
		if d.below(2) == 0 {
			gen = m[at].Gen
		}
	}
	switch d.below(6) {
	case 0:
		block := d.below(20) - 1
		i, code = p.Take(block)
		wantI, want = m.take(block)
		return "Take", i, wantI, code, want
	case 1:
		value := uint64(d.below(100))
		return "Fill", 0, 0, p.Fill(at, value), m.fill(at, value)
	case 2:
		return "Pin", 0, 0, p.Pin(at, gen), m.pin(at, gen, 1)
	case 3, 4:
		return "Unpin", 0, 0, p.Unpin(at, gen), m.pin(at, gen, -1)
	}
	return "Doom", 0, 0, p.Doom(at), m.doom(at)
}

func TestBesideTheModel(t *testing.T) {
	type outcome struct {
		what string
		code api.Code
	}
	reached := map[outcome]int{}
	d := &draws{state: 4}
	for _, size := range []int{1, 2, 5, 64} {
		p, m := made(t, size), make(model, size)
		for n := range 5000 {
			what, i, wantI, code, want := step(d, p, m)
			if i != wantI || code != want {
				t.Fatalf("%d frames, step %d: %s told %d %d, not %d %d", size, n, what, i, code, wantI, want)
			}
			reached[outcome{what, code}]++
			if got := lookAt(p); got != m.look() {
				t.Fatalf("%d frames, step %d, %s: %v, not %v", size, n, what, got, m.look())
			}
			if c := p.Count(); c[0]+c[1]+c[2]+c[3] != size {
				t.Fatalf("%d frames, step %d, %s: the states together are %v", size, n, what, c)
			}
		}
	}
	for _, o := range []outcome{
		{"Take", api.OK}, {"Take", api.Arg}, {"Take", api.Full},
		{"Fill", api.OK}, {"Fill", api.Arg}, {"Fill", api.Busy},
		{"Pin", api.OK}, {"Pin", api.Arg}, {"Pin", api.NotFound}, {"Pin", api.Busy},
		{"Unpin", api.OK}, {"Unpin", api.Arg}, {"Unpin", api.NotFound}, {"Unpin", api.Busy},
		{"Doom", api.OK}, {"Doom", api.Arg}, {"Doom", api.Busy},
	} {
		if reached[o] < 20 {
			t.Errorf("%s told %d but %d times", o.what, o.code, reached[o])
		}
	}
}
