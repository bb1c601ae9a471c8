package fetch_test

import (
	"cmp"
	"fmt"
	"slices"
	"testing"

	"forerunner/api"
	"forerunner/ask"
	"forerunner/fetch"
)

// plainTicket is a ticket, with when it came into its row, what it writes, and who waits for it.
type plainTicket struct {
	api.Ticket
	turn    int
	value   uint64
	waiters []api.Waiter
}

// plain is an engine as the chapter's words have it: all tickets, by rising numbers, so that those of a block are its lane.
type plain struct {
	o       api.Options
	tickets []*plainTicket
	moves   []api.Move
	numbers int
	tags    int
	turns   int
}

func (p *plain) lane(block int) []*plainTicket {
	return p.those(func(t *plainTicket) bool { return t.Block == block })
}

func (p *plain) those(are func(*plainTicket) bool) []*plainTicket {
	var all []*plainTicket
	for _, t := range p.tickets {
		if are(t) {
			all = append(all, t)
		}
	}
	return all
}

func (p *plain) told(t *plainTicket) api.Ticket {
	told := t.Ticket
	told.Waiters = len(t.waiters)
	return told
}

func (p *plain) of(id int) []api.Waiter {
	for _, t := range p.tickets {
		if t.ID == id {
			return slices.Clone(t.waiters)
		}
	}
	return nil
}

func (p *plain) free() [3]int {
	free := [3]int{p.o.Demand, p.o.Ahead, p.o.Waiters}
	for _, t := range p.tickets {
		if t.Kind == api.Ahead {
			free[1]--
		} else {
			free[0]--
		}
		free[2] -= len(t.waiters)
	}
	return free
}

func (p *plain) isBlock(block int) bool { return 0 <= block && block < p.o.Blocks }

// meets is what a Read of a block would join; nil, if nothing.
func (p *plain) meets(block int) *plainTicket {
	lane := p.lane(block)
	if len(lane) == 0 {
		return nil
	}
	if last := lane[len(lane)-1]; last.Kind != api.Write && !last.Cut {
		return last
	}
	return nil
}

func (p *plain) needs(block int) bool {
	if !p.isBlock(block) {
		return false
	}
	t := p.meets(block)
	return t == nil || t.Kind == api.Ahead
}

func (p *plain) idle(block int) bool { return p.isBlock(block) && len(p.lane(block)) == 0 }

// refuses is why a waiter can't come, if it needs a place, or not.
func (p *plain) refuses(block int, w api.Waiter, place bool) api.Code {
	if !p.isBlock(block) || w.Req < 1 || w.Place < 0 || w.Place > 7 {
		return api.Arg
	}
	if len(p.those(func(t *plainTicket) bool { return slices.Contains(t.waiters, w) })) > 0 {
		return api.Exists
	}
	if free := p.free(); free[2] == 0 || place && free[0] == 0 {
		return api.Full
	}
	return api.OK
}

func (p *plain) turn() int {
	p.turns++
	return p.turns
}

func (p *plain) add(kind, block int) *plainTicket {
	p.numbers++
	t := &plainTicket{Ticket: api.Ticket{ID: p.numbers, Kind: kind, Block: block}, turn: p.turn()}
	p.tickets = append(p.tickets, t)
	return t
}

func (p *plain) end(t *plainTicket) {
	p.tickets = slices.DeleteFunc(p.tickets, func(o *plainTicket) bool { return o == t })
}

func (p *plain) read(block, list int, w api.Waiter) (api.Ticket, bool, bool, api.Code) {
	if list != 0 && list != 1 {
		return api.Ticket{}, false, false, api.Arg
	}
	if code := p.refuses(block, w, p.needs(block)); code != api.OK {
		return api.Ticket{}, false, false, code
	}
	t := p.meets(block)
	joined := t != nil
	late := joined && t.Kind == api.Ahead
	if !joined {
		t = p.add(api.Read, block)
	}
	if late {
		t.Kind, t.turn = api.Read, p.turn()
	}
	t.List = list
	t.waiters = append(t.waiters, w)
	return p.told(t), joined, late, api.OK
}

func (p *plain) write(block int, value uint64, w api.Waiter) (api.Ticket, int, api.Code) {
	if code := p.refuses(block, w, true); code != api.OK {
		return api.Ticket{}, 0, code
	}
	gone := 0
	if t := p.meets(block); t != nil && t.Kind == api.Ahead && !t.Out {
		gone = t.ID
		p.end(t)
	}
	t := p.add(api.Write, block)
	t.value, t.waiters = value, []api.Waiter{w}
	return p.told(t), gone, api.OK
}

func (p *plain) ahead(block int) (api.Ticket, api.Code) {
	switch {
	case !p.isBlock(block):
		return api.Ticket{}, api.Arg
	case !p.idle(block):
		return api.Ticket{}, api.Busy
	case p.free()[1] == 0:
		return api.Ticket{}, api.Full
	}
	return p.told(p.add(api.Ahead, block)), api.OK
}

func (p *plain) cut(block int) (api.Left, bool) {
	lane := p.lane(block)
	if len(lane) == 0 || lane[0].Kind == api.Write {
		return api.Left{}, false
	}
	t := lane[0]
	if t.Kind == api.Ahead && !t.Out {
		p.end(t)
		return api.Left{Ticket: p.told(t), Gone: true}, true
	}
	if !t.Framed || t.Cut {
		return api.Left{}, false
	}
	t.Cut = true
	return api.Left{Ticket: p.told(t)}, true
}

func (p *plain) quit(req int) ([]api.Left, api.Code) {
	its := func(w api.Waiter) bool { return w.Req == req }
	all := p.those(func(t *plainTicket) bool { return slices.ContainsFunc(t.waiters, its) })
	if slices.ContainsFunc(all, func(t *plainTicket) bool { return t.Kind == api.Write && t.Out }) {
		return nil, api.Busy
	}
	var list []api.Left
	for _, t := range all {
		t.waiters = slices.DeleteFunc(t.waiters, its)
		l := api.Left{Ticket: p.told(t), Gone: len(t.waiters) == 0 && !t.Out}
		if l.Gone {
			p.end(t)
		}
		list = append(list, l)
	}
	return list, api.OK
}

// byTurns are all that wait, in the order of their turns.
func (p *plain) byTurns() []*plainTicket {
	all := p.those(func(t *plainTicket) bool { return !t.Out })
	slices.SortFunc(all, func(a, b *plainTicket) int {
		if (a.Kind == api.Ahead) != (b.Kind == api.Ahead) {
			return cmp.Compare(a.Kind/api.Ahead, b.Kind/api.Ahead)
		}
		return cmp.Compare(a.turn, b.turn)
	})
	return all
}

func (p *plain) next(room int) (m api.Move, dropped []int, ok bool) {
	if len(p.moves) >= p.o.Out {
		return api.Move{}, nil, false
	}
	room = max(room, 0)
	for _, t := range p.byTurns() {
		if p.lane(t.Block)[0] != t {
			continue
		}
		if t.Kind == api.Write || t.Framed || room > 0 {
			return p.move(t, room), dropped, true
		}
		if t.Kind == api.Ahead {
			p.end(t)
			dropped = append(dropped, t.Block)
		}
	}
	return api.Move{}, dropped, false
}

// move is the move of the head t, and those around it.
func (p *plain) move(t *plainTicket, room int) api.Move {
	first, last := t.Block, t.Block
	room -= p.cost(t)
	for last-first+1 < p.o.Span {
		if above := p.fits(last+1, t.Kind, room); above != nil {
			last++
			room -= p.cost(above)
		} else if below := p.fits(first-1, t.Kind, room); below != nil {
			first--
			room -= p.cost(below)
		} else {
			break
		}
	}
	p.tags++
	m := api.Move{Tag: p.tags, Write: t.Kind == api.Write, Run: api.Run{First: first, Count: last - first + 1}}
	for block := first; block <= last; block++ {
		head := p.lane(block)[0]
		m.Tickets = append(m.Tickets, head.ID)
		if head.Kind == api.Write {
			m.Values = append(m.Values, head.value)
		} else if !head.Framed {
			m.Fresh = append(m.Fresh, block)
		}
		head.Out, head.Framed = true, head.Kind != api.Write
	}
	p.moves = append(p.moves, m)
	return m
}

// fits is the head of a block that goes with one of that kind, if there is room; nil otherwise.
func (p *plain) fits(block, kind, room int) *plainTicket {
	lane := p.lane(block)
	if len(lane) == 0 || lane[0].Out || lane[0].Kind != kind || p.cost(lane[0]) > room {
		return nil
	}
	return lane[0]
}

func (p *plain) cost(t *plainTicket) int {
	if t.Kind == api.Write || t.Framed {
		return 0
	}
	return 1
}

func (p *plain) finish(tag int, well bool) ([]api.Outcome, api.Code) {
	at := slices.IndexFunc(p.moves, func(m api.Move) bool { return m.Tag == tag })
	if at < 0 {
		return nil, api.NotFound
	}
	m := p.moves[at]
	p.moves = slices.Delete(p.moves, at, at+1)
	var all []api.Outcome
	for _, t := range p.those(func(t *plainTicket) bool { return slices.Contains(m.Tickets, t.ID) }) {
		o := api.Outcome{Ticket: p.told(t), Value: t.value, Fate: api.Lost}
		if well {
			o.Fate = api.Ended
		} else if t.Tries++; len(t.waiters) > 0 && t.Tries < p.o.Tries {
			o.Fate = api.Again
		}
		t.Out = false
		if o.Fate != api.Again {
			p.end(t)
			o.Waiters = t.waiters
		}
		all = append(all, o)
	}
	slices.SortFunc(all, func(a, b api.Outcome) int { return cmp.Compare(a.Ticket.Block, b.Ticket.Block) })
	return all, api.OK
}

func (p *plain) serve(block int) (api.Ticket, []api.Waiter, bool) {
	lane := p.lane(block)
	if len(lane) == 0 || lane[0].Kind != api.Read || lane[0].Out || lane[0].Framed {
		return api.Ticket{}, nil, false
	}
	p.end(lane[0])
	return p.told(lane[0]), lane[0].waiters, true
}

// text is all that a call answers, as a text. What is empty is told as what is nil.
func text(all ...any) string { return fmt.Sprintf("%+v", all) }

// came is how a call of that name came out.
type came struct {
	name string
	code api.Code
}

// step is a call that is made of both: how it came out, and what both answered.
type step struct {
	came
	got, want string
}

// found is a name for a call that found something, or nothing.
func found(name string, something bool) string {
	if something {
		return name
	}
	return name + " of nothing"
}

// called is a call that is made of both.
func called(d *draws, g *fetch.Engine, p *plain) step {
	block, w := d.below(p.o.Blocks), who(1+d.below(2+p.o.Waiters/4), d.below(8))
	if d.below(40) == 0 {
		block, w = d.below(p.o.Blocks+2)-1, who(d.below(3), d.below(10)-1)
	}
	switch d.below(16) {
	case 0, 1, 2, 3:
		list := d.below(2)
		if d.below(50) == 0 {
			list = 3*list - 1
		}
		t, joined, late, code := g.Read(block, list, w)
		pt, pj, pl, pc := p.read(block, list, w)
		how := map[[2]bool]string{{false, false}: "Read", {true, false}: "Read, joined", {true, true}: "Read, late"}[[2]bool{pj, pl}]
		return step{came{how, pc}, text(t, joined, late, code), text(pt, pj, pl, pc)}
	case 4, 5:
		value := uint64(d.below(1000))
		t, gone, code := g.Write(block, value, w)
		pt, pg, pc := p.write(block, value, w)
		return step{came{"Write" + flags([]string{"gone"}, pg > 0), pc}, text(t, gone, code), text(pt, pg, pc)}
	case 6, 7, 8:
		t, code := g.Ahead(block)
		pt, pc := p.ahead(block)
		return step{came{"Ahead", pc}, text(t, code), text(pt, pc)}
	case 9:
		l, ok := g.Cut(block)
		pl, po := p.cut(block)
		return step{came{found("Cut", po) + flags([]string{"gone"}, pl.Gone), 0}, text(l, ok), text(pl, po)}
	case 10:
		l, code := g.Quit(w.Req)
		pl, pc := p.quit(w.Req)
		gone := slices.ContainsFunc(pl, func(l api.Left) bool { return l.Gone })
		return step{came{found("Quit", len(pl) > 0) + flags([]string{"gone"}, gone), pc}, text(l, code), text(pl, pc)}
	case 11:
		t, all, ok := g.Serve(block)
		pt, pa, po := p.serve(block)
		return step{came{found("Serve", po), 0}, text(t, all, ok), text(pt, pa, po)}
	case 12, 13:
		room := d.below(8) - 2
		m, dropped, ok := g.Next(room)
		pm, pd, po := p.next(room)
		return step{came{found("Next", po) + flags([]string{"dropped"}, len(pd) > 0), 0}, text(m, dropped, ok), text(pm, pd, po)}
	}
	tag, well := d.below(p.tags+2), d.below(2) == 0
	if len(p.moves) > 0 && d.below(10) > 0 {
		tag = p.moves[d.below(len(p.moves))].Tag
	}
	l, code := g.Finish(tag, well)
	pl, pc := p.finish(tag, well)
	name := "Finish"
	for _, o := range pl {
		name = "Finish " + []string{"ended", "again", "lost"}[o.Fate]
	}
	return step{came{name, pc}, text(l, code), text(pl, pc)}
}

// tells asks for all that is told of both.
func (p *plain) tells(t *testing.T, g *fetch.Engine) {
	t.Helper()
	var tickets []api.Ticket
	for _, one := range p.tickets {
		tickets = append(tickets, p.told(one))
		if got, want := text(g.Of(one.ID)), text(one.waiters); got != want {
			t.Errorf("Of(%d): %s, not %s", one.ID, got, want)
		}
	}
	if got, want := text(g.Tickets(), g.Out()), text(tickets, p.moves); got != want {
		t.Errorf("Tickets and Out: %s, not %s", got, want)
	}
	demand, ahead, waiters := g.Free()
	if got := [3]int{demand, ahead, waiters}; got != p.free() {
		t.Errorf("Free: %d, not %d", got, p.free())
	}
	for block := -1; block <= p.o.Blocks; block++ {
		if g.Needs(block) != p.needs(block) || g.Idle(block) != p.idle(block) {
			t.Errorf("block %d: Needs %v, Idle %v", block, g.Needs(block), g.Idle(block))
		}
	}
}

// together lets both be used, and holds them against each other. It counts how the calls came out.
func together(t *testing.T, d *draws, o api.Options, counts map[came]int) {
	t.Helper()
	g, code := fetch.New(o)
	if code != api.OK {
		t.Fatalf("New(%+v): %d", o, code)
	}
	p := &plain{o: o}
	for i := range 300 {
		s := called(d, g, p)
		if s.got != s.want {
			t.Errorf("%s: %s, not %s", s.name, s.got, s.want)
		}
		counts[s.came]++
		p.tells(t, g)
		if t.Failed() {
			t.Fatalf("%+v, step %d", o, i)
		}
	}
}

func TestBesideAPlainEngine(t *testing.T) {
	d := &draws{state: 1}
	counts := map[came]int{}
	for range 150 {
		o, _ := ask.Usual(1 + d.below(12))
		o.Demand, o.Ahead, o.Waiters = 1+d.below(8), d.below(6), 1+d.below(14)
		o.Out, o.Span, o.Tries = 1+d.below(5), 1+d.below(8), 1+d.below(4)
		together(t, d, o, counts)
	}
	together(t, d, api.Options{
		Blocks: 256, Frames: 64, Bottom: 64, Demand: 64, Ahead: 64, Out: 16, Span: 8, Tries: 8,
		Requests: 16, Waiters: 64, Streams: 16, Table: 32, Life: 64, Degree: 16,
	}, counts)
	for name, codes := range map[string][]api.Code{
		"Read":                    {api.OK, api.Arg, api.Exists, api.Full},
		"Read, joined":            {api.OK},
		"Read, late":              {api.OK},
		"Write":                   {api.OK, api.Arg, api.Exists, api.Full},
		"Write gone":              {api.OK},
		"Ahead":                   {api.OK, api.Arg, api.Busy, api.Full},
		"Cut":                     {api.OK},
		"Cut gone":                {api.OK},
		"Cut of nothing":          {api.OK},
		"Quit":                    {api.OK},
		"Quit gone":               {api.OK},
		"Quit of nothing":         {api.OK, api.Busy},
		"Serve":                   {api.OK},
		"Next":                    {api.OK},
		"Next of nothing":         {api.OK},
		"Next of nothing dropped": {api.OK},
		"Finish":                  {api.NotFound},
		"Finish ended":            {api.OK},
		"Finish again":            {api.OK},
		"Finish lost":             {api.OK},
	} {
		for _, code := range codes {
			if n := counts[came{name, code}]; n < 50 {
				t.Errorf("%s came to %d %d times", name, code, n)
			}
		}
	}
}
