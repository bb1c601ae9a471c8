package cache_test

import (
	"fmt"
	"slices"
	"testing"

	"forerunner/api"
	"forerunner/ask"
	"forerunner/cache"
	"forerunner/dev"
	"forerunner/fetch"
	"forerunner/req"
	"forerunner/sarc"
	"forerunner/stream"
)

// plainFrame is a frame that isn't free: its block, and whether that is in by it; its value, if it has one; the ticket whose it is (0: nobody's); and the stream for which it is unused (0: none).
type plainFrame struct {
	block  int
	in     bool
	valid  bool
	value  uint64
	ticket int
	stream int
}

// plain is a cache as the chapter's words have it: frames in a list (nil: free), and streams by Aheads' tickets. Pins aren't counted: who has a frame tells them.
type plain struct {
	o        api.Options
	disk     *dev.Dev
	policy   *sarc.Sarc
	tracker  *stream.Tracker
	engine   *fetch.Engine
	requests *req.Table
	frames   []*plainFrame
	asked    map[int]int
	tally    api.Tally
	trace    []api.Event
}

func newPlain(o api.Options, first []uint64) *plain {
	p := &plain{o: o, frames: make([]*plainFrame, o.Frames), asked: map[int]int{}}
	p.disk, _ = dev.New(o.Blocks, first)
	p.policy, _ = sarc.New(o.Frames, o.Bottom)
	p.tracker, _ = stream.New(o.Streams, o.Table, o.Life, o.Degree, o.Blocks)
	p.engine, _ = fetch.New(o)
	p.requests, _ = req.New(o.Requests)
	return p
}

func (p *plain) note(ev api.Event) { p.trace = append(p.trace, ev) }

// of is the place of the frame by which a block is in; -1, if it isn't.
func (p *plain) of(block int) int {
	return slices.IndexFunc(p.frames, func(f *plainFrame) bool { return f != nil && f.in && f.block == block })
}

// owned is the place of a ticket's frame; -1, if it has none.
func (p *plain) owned(ticket int) int {
	return slices.IndexFunc(p.frames, func(f *plainFrame) bool { return f != nil && f.ticket == ticket })
}

func (p *plain) value(block int) (uint64, bool) {
	if i := p.of(block); i >= 0 && p.frames[i].valid {
		return p.frames[i].value, true
	}
	return 0, false
}

func (p *plain) isHit(block int) bool {
	_, valid := p.value(block)
	return valid && p.engine.Idle(block)
}

// tidy frees frames by which no block is in, and which are nobody's.
func (p *plain) tidy() {
	for i, f := range p.frames {
		if f != nil && !f.in && f.ticket == 0 {
			p.frames[i] = nil
		}
	}
}

func (p *plain) dropped(block, stream int) {
	p.tally.Dropped++
	p.note(api.Event{Kind: api.EvDrop, Block: block, Stream: stream})
}

func (p *plain) goes(i int) {
	p.note(api.Event{Kind: api.EvGone, Block: p.frames[i].block})
	p.policy.Gone(i)
	p.frames[i].in = false
	p.tidy()
}

func (p *plain) step(op api.Op) (api.Code, []api.Answer) {
	if code := ask.Op(p.o.Blocks, op); code != api.OK {
		return code, nil
	}
	code := api.OK
	switch op.Kind {
	case api.OpRead:
		code = p.read(op)
	case api.OpWrite:
		code = p.write(op)
	case api.OpDrop:
		for block := op.First; block < op.First+op.Count; block++ {
			p.drop(block)
		}
	case api.OpCancel:
		code = p.cancel(op.ID)
	case api.OpFinish:
		code = p.finish(op)
	}
	if code != api.OK {
		return code, nil
	}
	for p.moveOut() {
	}
	return code, p.requests.Take()
}

func (p *plain) refuses(id, places, waits int) api.Code {
	demand, _, waiters := p.engine.Free()
	if slices.Contains(p.requests.Pending(), id) {
		return api.Exists
	}
	if len(p.requests.Pending()) >= p.o.Requests {
		return api.Full
	}
	if places > demand || waits > waiters {
		return api.Busy
	}
	return api.OK
}

func (p *plain) read(op api.Op) api.Code {
	places, waits := 0, 0
	for block := op.First; block < op.First+op.Count; block++ {
		if p.isHit(block) {
			continue
		}
		waits++
		if p.engine.Needs(block) {
			places++
		}
	}
	p.tally.Demand += uint64(op.Count)
	if code := p.refuses(op.ID, places, waits); code != api.OK {
		p.tally.Refused += uint64(op.Count)
		return code
	}
	p.requests.Open(op.ID, api.OpRead, op.Count)
	found, _ := p.tracker.Access(op.First, op.Count)
	p.note(api.Event{Kind: api.EvAccess, Block: op.First, Count: op.Count, Stream: found.Stream})
	list := api.Seq
	if found.Stream == 0 {
		list = api.Rand
	}
	for place := range op.Count {
		p.readBlock(op.First+place, list, api.Waiter{Req: op.ID, Place: place})
	}
	for block := found.Ahead.First; block < found.Ahead.First+found.Ahead.Count; block++ {
		if p.of(block) >= 0 || !p.engine.Idle(block) {
			continue
		}
		p.tally.Issued++
		if t, code := p.engine.Ahead(block); code == api.OK {
			p.asked[t.ID] = found.Stream
			p.note(api.Event{Kind: api.EvAhead, Block: block, Stream: found.Stream})
		} else {
			p.dropped(block, found.Stream)
		}
	}
	return api.OK
}

func (p *plain) readBlock(block, list int, w api.Waiter) {
	i := p.of(block)
	if i < 0 {
		p.note(api.Event{Kind: api.EvMiss, Block: block, List: list})
		p.policy.Miss(list)
	} else {
		p.note(api.Event{Kind: api.EvHit, Block: block, List: list})
		p.policy.Hit(i, list)
		if p.frames[i].stream > 0 {
			p.frames[i].stream = 0
			p.tally.Used++
		}
	}
	if p.isHit(block) {
		p.requests.Give(w.Req, w.Place, p.frames[i].value)
		p.tally.Hits++
		return
	}
	t, joined, late, code := p.engine.Read(block, list, w)
	if code != api.OK {
		panic(fmt.Sprintf("a Read of block %d: %d", block, code))
	}
	if joined {
		p.tally.Merged++
	} else {
		p.tally.Missed++
	}
	if late {
		p.tally.Used++
		p.note(api.Event{Kind: api.EvLate, Stream: p.asked[t.ID]})
		p.tracker.Late(p.asked[t.ID])
	}
}

func (p *plain) write(op api.Op) api.Code {
	if code := p.refuses(op.ID, len(op.Values), len(op.Values)); code != api.OK {
		return code
	}
	p.requests.Open(op.ID, api.OpWrite, len(op.Values))
	for place, v := range op.Values {
		_, gone, code := p.engine.Write(op.First+place, v, api.Waiter{Req: op.ID, Place: place})
		if code != api.OK {
			panic(fmt.Sprintf("a Write of block %d: %d", op.First+place, code))
		}
		if gone > 0 {
			p.dropped(op.First+place, p.asked[gone])
		}
	}
	return api.OK
}

func (p *plain) drop(block int) {
	if left, ok := p.engine.Cut(block); ok && left.Gone {
		p.dropped(block, p.asked[left.Ticket.ID])
	}
	if i := p.of(block); i >= 0 {
		if p.frames[i].stream > 0 {
			p.tally.Wasted++
		}
		p.goes(i)
	}
}

func (p *plain) cancel(id int) api.Code {
	if p.requests.Kind(id) == 0 {
		return api.NotFound
	}
	if p.requests.Kind(id) == api.OpWrite && p.requests.Touched(id) {
		return api.Busy
	}
	all, code := p.engine.Quit(id)
	if code != api.OK {
		return code
	}
	for _, left := range all {
		i := p.owned(left.Ticket.ID)
		if i < 0 || !left.Gone {
			continue
		}
		f := p.frames[i]
		if !left.Ticket.Cut {
			p.goes(i)
		}
		f.ticket = 0
		p.tidy()
	}
	p.requests.Cancel(id)
	for _, left := range all {
		p.serve(left.Ticket.Block)
	}
	return api.OK
}

func (p *plain) serve(block int) {
	for {
		v, valid := p.value(block)
		if !valid {
			return
		}
		_, waiters, ok := p.engine.Serve(block)
		if !ok {
			return
		}
		for _, w := range waiters {
			p.requests.Give(w.Req, w.Place, v)
		}
	}
}

func (p *plain) finish(op api.Op) api.Code {
	values, code := p.disk.Finish(op.ID, op.Well)
	if code == api.NotFound {
		return code
	}
	outcomes, _ := p.engine.Finish(op.ID, op.Well)
	for at, o := range outcomes {
		if o.Fate == api.Again {
			continue
		}
		if o.Ticket.Kind == api.Write {
			p.wrote(o)
		} else if o.Fate == api.Ended {
			p.told(o, values[at])
		} else {
			p.lost(o)
		}
		p.serve(o.Ticket.Block)
	}
	return api.OK
}

func (p *plain) wrote(o api.Outcome) {
	w := o.Waiters[0]
	if o.Fate == api.Lost {
		p.requests.Lose(w.Req, w.Place)
		return
	}
	if i := p.of(o.Ticket.Block); i >= 0 && p.frames[i].valid {
		p.frames[i].value = o.Value
	}
	p.requests.Give(w.Req, w.Place, 0)
}

func (p *plain) told(o api.Outcome, v uint64) {
	f := p.frames[p.owned(o.Ticket.ID)]
	isAhead := o.Ticket.Kind == api.Ahead
	switch {
	case !o.Ticket.Cut:
		p.note(api.Event{Kind: api.EvReady, Block: f.block})
		p.policy.Ready(p.of(f.block))
		f.valid, f.value = true, v
		if isAhead {
			f.stream = p.asked[o.Ticket.ID]
		}
	case isAhead:
		p.tally.Wasted++
	}
	for _, w := range o.Waiters {
		p.requests.Give(w.Req, w.Place, v)
	}
	f.ticket = 0
	p.tidy()
}

func (p *plain) lost(o api.Outcome) {
	i := p.owned(o.Ticket.ID)
	f := p.frames[i]
	for _, w := range o.Waiters {
		p.requests.Lose(w.Req, w.Place)
	}
	if !o.Ticket.Cut {
		p.goes(i)
	}
	if o.Ticket.Kind == api.Ahead {
		p.tally.Lost++
	}
	f.ticket = 0
	p.tidy()
}

func (p *plain) moveOut() bool {
	room := 0
	for _, f := range p.frames {
		if f == nil || f.in && f.valid {
			room++
		}
	}
	ahead := map[int]int{}
	for _, t := range p.engine.Tickets() {
		if t.Kind == api.Ahead {
			ahead[t.Block] = t.ID
		}
	}
	m, dropped, ok := p.engine.Next(room)
	for _, block := range dropped {
		p.dropped(block, p.asked[ahead[block]])
	}
	if !ok {
		return false
	}
	tickets := p.engine.Tickets()
	for at, id := range m.Tickets {
		block := m.Run.First + at
		if slices.Contains(m.Fresh, block) {
			t := tickets[slices.IndexFunc(tickets, func(t api.Ticket) bool { return t.ID == id })]
			p.comeIn(block, t)
		}
	}
	if code := p.disk.Submit(api.Cmd{Tag: m.Tag, Write: m.Write, First: m.Run.First, Count: m.Run.Count, Values: m.Values}); code != api.OK {
		panic(fmt.Sprintf("move %+v: %d", m, code))
	}
	return true
}

func (p *plain) comeIn(block int, t api.Ticket) {
	i := slices.Index(p.frames, nil)
	if i < 0 {
		i, _ = p.policy.Victim()
		f := p.frames[i]
		p.note(api.Event{Kind: api.EvVictim, Block: f.block})
		if f.stream > 0 {
			p.tally.Wasted++
			p.note(api.Event{Kind: api.EvWaste, Stream: f.stream})
			p.tracker.Waste(f.stream)
		}
	}
	p.frames[i] = &plainFrame{block: block, in: true, ticket: t.ID}
	p.note(api.Event{Kind: api.EvEnter, Block: block, List: t.List})
	p.policy.Enter(i, t.List)
}

func (p *plain) load() api.Load {
	l := api.Load{Out: len(p.disk.Out()), Pending: len(p.requests.Pending())}
	for _, t := range p.engine.Tickets() {
		l.Tickets++
		l.Waiters += t.Waiters
		if t.Waiters == 0 {
			l.Loose++
		}
		if t.Kind == api.Ahead {
			l.Ahead++
			l.Flight++
		} else {
			l.Demand++
		}
		if p.owned(t.ID) >= 0 {
			l.Pins += 1 + t.Waiters
		}
	}
	for _, f := range p.frames {
		switch {
		case f == nil:
			l.Frames[api.Free]++
		case !f.in:
			l.Frames[api.Doomed]++
		case f.valid:
			l.Frames[api.Valid]++
		default:
			l.Frames[api.Filling]++
		}
		if f != nil && f.stream > 0 && f.in {
			l.Resident++
		}
	}
	return l
}

func (p *plain) byBlocks() api.Policy {
	told := p.policy.Policy()
	for _, l := range [][]int{told.Lists[0], told.Lists[1], told.Held} {
		for at, i := range l {
			l[at] = p.frames[i].block
		}
	}
	slices.Sort(told.Held)
	return told
}

// state is all that a plain cache tells, but for its trace.
func (p *plain) state() string {
	s := fmt.Sprint(p.disk.Out(), p.disk.Blocks(), p.byBlocks(), p.tracker.Streams(), p.tally, p.load(), p.requests.Pending())
	for block := range p.o.Blocks {
		v, valid := p.value(block)
		s += fmt.Sprint(" ", v, valid)
	}
	return s
}

// state is all that a cache of so many blocks tells, but for its trace.
func state(c *cache.Cache, blocks int) string {
	s := fmt.Sprint(c.Out(), c.Disk(), c.Policy(), c.Streams(), c.Tally(), c.Load(), c.Pending())
	for block := range blocks {
		v, valid := c.Cached(block)
		s += fmt.Sprint(" ", v, valid)
	}
	return s
}

// TestBesideAPlainCache: whatever operations come, a cache does, and tells, what the chapter's words say.
func TestBesideAPlainCache(t *testing.T) {
	seen := map[string]int{}
	for run := range 400 {
		d := draws(run + 1)
		o := someOptions(&d)
		first := someValues(&d, o.Blocks)
		c, p := made(t, o, first...), newPlain(o, first)
		g := &source{d: &d, o: o, readers: make([]int, 3)}
		for at := range 150 {
			op := g.next(c)
			code, answers := c.Step(op)
			wantCode, want := p.step(op)
			if code != wantCode || fmt.Sprint(answers) != fmt.Sprint(want) {
				t.Fatalf("run %d, %+v, step %d, %+v: %d %v, not %d %v", run, o, at, op, code, answers, wantCode, want)
			}
			if got, want := state(c, o.Blocks), p.state(); got != want {
				t.Fatalf("run %d, %+v, step %d, %+v:\n%s, not\n%s", run, o, at, op, got, want)
			}
			if got := c.Trace(); !slices.Equal(got, p.trace) {
				t.Fatalf("run %d, %+v, step %d, %+v:\n%v, not\n%v", run, o, at, op, got, p.trace)
			}
			seen[fmt.Sprint("kind ", op.Kind, ": ", code)]++
			for _, a := range answers {
				seen[fmt.Sprint("answer: ", a.Code)]++
			}
		}
		for _, ev := range p.trace {
			seen[fmt.Sprint("event ", ev.Kind)]++
		}
		parts(seen, p.tally)
	}
	hasSeen(t, seen)
}
