package cache

import (
	"slices"

	"forerunner/api"
)

// letMovesOut lets all go to the disk that can.
func (c *Cache) letMovesOut() {
	for {
		m, dropped, ok := c.engine.Next(c.free() + c.policy.Room())
		for _, block := range dropped {
			c.dropAhead(block)
		}
		if !ok {
			return
		}
		for _, block := range m.Fresh {
			c.enter(block, m.Tickets[block-m.Run.First])
		}
		c.disk.Submit(api.Cmd{Tag: m.Tag, Write: m.Write, First: m.Run.First, Count: m.Run.Count, Values: m.Values})
	}
}

// enter: a block comes in, for a ticket that goes out.
func (c *Cache) enter(block, ticket int) {
	if c.free() == 0 {
		c.evict()
	}
	i, _ := c.pool.Take(block)
	c.table.Put(block, i)
	list := c.listOf(ticket)
	c.tell(api.Event{Kind: api.EvEnter, Block: block, List: list})
	c.policy.Enter(i, list)
	c.frames[ticket] = i
	c.pin(i, 1+len(c.engine.Of(ticket)))
}

// evict lets a block go, as the policy would have it. There is one that can: the engine was told how many can.
func (c *Cache) evict() {
	i, _ := c.policy.Victim()
	f, _ := c.pool.Frame(i)
	c.tell(api.Event{Kind: api.EvVictim, Block: f.Block})
	c.leave(f.Block, i)
	if id, was := c.takeUnused(i); was {
		c.count(api.Tally{Wasted: 1})
		c.tell(api.Event{Kind: api.EvWaste, Stream: id})
		c.tracker.Waste(id)
	}
}

// goes: a block that is in goes, whoever has its frame still.
func (c *Cache) goes(block int) {
	i, _ := c.table.Get(block)
	c.tell(api.Event{Kind: api.EvGone, Block: block})
	c.policy.Gone(i)
	c.leave(block, i)
}

// leave: a block isn't in its frame any more.
func (c *Cache) leave(block, i int) {
	c.table.Del(block)
	c.pool.Doom(i)
}

// comeIn does with a ticket what became of it.
func (c *Cache) comeIn(o api.Outcome) {
	switch {
	case o.Fate == api.Again:
		return
	case o.Ticket.Kind == api.Write:
		c.written(o)
	default:
		c.fetched(o)
	}
	c.serve(o.Ticket.Block)
}

// written: a Write ended, or is lost.
func (c *Cache) written(o api.Outcome) {
	if o.Fate == api.Lost {
		c.lose(o.Waiters)
		return
	}
	if _, valid := c.Cached(o.Ticket.Block); valid {
		i, _ := c.table.Get(o.Ticket.Block)
		c.pool.Fill(i, o.Value)
	}
	c.give(o.Waiters, 0)
}

// fetched: a Read or an Ahead ended, or is lost. Its frame isn't its any more.
func (c *Cache) fetched(o api.Outcome) {
	i := c.frames[o.Ticket.ID]
	delete(c.frames, o.Ticket.ID)
	if o.Fate == api.Ended {
		c.fill(i, o)
		c.give(o.Waiters, o.Value)
	} else {
		c.lose(o.Waiters)
		c.empty(o)
	}
	c.unpin(i, 1+len(o.Waiters))
}

// fill: a block was told, so that its frame has it, unless it was cut.
func (c *Cache) fill(i int, o api.Outcome) {
	t := o.Ticket
	if !t.Cut {
		c.pool.Fill(i, o.Value)
		c.tell(api.Event{Kind: api.EvReady, Block: t.Block})
		c.policy.Ready(i)
	}
	if t.Kind != api.Ahead {
		return
	}
	id := c.takeStream(t.Block)
	if t.Cut {
		c.count(api.Tally{Wasted: 1})
	} else {
		c.unused[i] = id
	}
}

// empty: a block wasn't told, so that it goes, unless it was cut.
func (c *Cache) empty(o api.Outcome) {
	t := o.Ticket
	if !t.Cut {
		c.goes(t.Block)
	}
	if t.Kind == api.Ahead {
		c.takeStream(t.Block)
		c.count(api.Tally{Lost: 1})
	}
}

// unwait: a request waits for a ticket no more.
func (c *Cache) unwait(left api.Left) {
	t := left.Ticket
	i, framed := c.frames[t.ID]
	if !framed {
		return
	}
	c.unpin(i, 1)
	if !left.Gone {
		return
	}
	if !t.Cut {
		c.goes(t.Block)
	}
	delete(c.frames, t.ID)
	c.unpin(i, 1)
}

// serve gives what a block has to all who wait for nothing else.
func (c *Cache) serve(block int) {
	for {
		value, valid := c.Cached(block)
		if !valid {
			return
		}
		_, waiters, ok := c.engine.Serve(block)
		if !ok {
			return
		}
		c.give(waiters, value)
	}
}

// give: the places of who waited are given a value.
func (c *Cache) give(waiters []api.Waiter, value uint64) {
	for _, w := range waiters {
		c.requests.Give(w.Req, w.Place, value)
	}
}

// lose: the places of who waited are lost.
func (c *Cache) lose(waiters []api.Waiter) {
	for _, w := range waiters {
		c.requests.Lose(w.Req, w.Place)
	}
}

// takeUnused is whether a frame was unused, and for which stream; it isn't any more.
func (c *Cache) takeUnused(i int) (int, bool) {
	id, was := c.unused[i]
	delete(c.unused, i)
	return id, was
}

// free is how many frames are free.
func (c *Cache) free() int { return c.pool.Count()[api.Free] }

// listOf is a ticket's list.
func (c *Cache) listOf(ticket int) int {
	all := c.engine.Tickets()
	return all[slices.IndexFunc(all, func(t api.Ticket) bool { return t.ID == ticket })].List
}

// pin: a frame has so many pins more.
func (c *Cache) pin(i, pins int) {
	f, _ := c.pool.Frame(i)
	for range pins {
		c.pool.Pin(i, f.Gen)
	}
}

// unpin: a frame has so many pins less.
func (c *Cache) unpin(i, pins int) {
	f, _ := c.pool.Frame(i)
	for range pins {
		c.pool.Unpin(i, f.Gen)
	}
}
