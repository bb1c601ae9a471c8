package cache

import (
	"slices"

	"forerunner/api"
	"forerunner/ask"
	"forerunner/refuse"
	"forerunner/run"
)

// doings are what operations do, by their kinds.
func (c *Cache) doings() map[int]func(api.Op) {
	return map[int]func(api.Op){
		api.OpRead:   c.read,
		api.OpWrite:  c.write,
		api.OpDrop:   c.drop,
		api.OpCancel: c.cancel,
		api.OpFinish: c.finish,
	}
}

// read: a request reads blocks. Exists, Full, Busy.
func (c *Cache) read(op api.Op) {
	blocks := run.Blocks(ask.Run(op))
	demanded := uint64(len(blocks))
	c.count(api.Tally{Demand: demanded})
	places, waits := c.needs(blocks)
	code := c.refusal(op.ID, places, waits)
	if code != api.OK {
		c.count(api.Tally{Refused: demanded})
	}
	mayGoOn(code)
	c.requests.Open(op.ID, op.Kind, len(blocks))
	found, list := c.access(op.First, len(blocks))
	for place, block := range blocks {
		c.readBlock(block, list, api.Waiter{Req: op.ID, Place: place})
	}
	for _, block := range run.Blocks(found.Ahead) {
		c.lookAhead(block, found.Stream)
	}
}

// write: a request writes blocks. Exists, Full, Busy.
func (c *Cache) write(op api.Op) {
	mayGoOn(c.refusal(op.ID, len(op.Values), len(op.Values)))
	c.requests.Open(op.ID, op.Kind, len(op.Values))
	for place, value := range op.Values {
		block := op.First + place
		if _, gone, _ := c.engine.Write(block, value, api.Waiter{Req: op.ID, Place: place}); gone > 0 {
			c.dropAhead(block)
		}
	}
}

// drop: blocks are forgotten.
func (c *Cache) drop(op api.Op) {
	for _, block := range run.Blocks(ask.Run(op)) {
		if left, _ := c.engine.Cut(block); left.Gone {
			c.dropAhead(block)
		}
		if i, in := c.table.Get(block); in {
			if _, was := c.takeUnused(i); was {
				c.count(api.Tally{Wasted: 1})
			}
			c.goes(block)
		}
	}
}

// cancel: a request is cancelled. NotFound, Busy.
func (c *Cache) cancel(op api.Op) {
	kind := c.requests.Kind(op.ID)
	refuse.Unless(kind != 0, api.NotFound)
	refuse.Unless(kind != api.OpWrite || !c.requests.Touched(op.ID), api.Busy)
	all, code := c.engine.Quit(op.ID)
	mayGoOn(code)
	for _, left := range all {
		c.unwait(left)
	}
	c.requests.Cancel(op.ID)
	for _, left := range all {
		c.serve(left.Ticket.Block)
	}
}

// finish: a command is finished. NotFound.
func (c *Cache) finish(op api.Op) {
	values, code := c.disk.Finish(op.ID, op.Well)
	refuse.Unless(code != api.NotFound, code)
	// Each command is a move of the same tag.
	outcomes, _ := c.engine.Finish(op.ID, op.Well)
	for at, o := range outcomes {
		if at < len(values) {
			o.Value = values[at]
		}
		c.comeIn(o)
	}
}

// refusal is why a request can't begin, of so many blocks that need a place, and so many that are waited for; OK, if it can. Exists, Full, Busy.
func (c *Cache) refusal(id, places, waits int) api.Code {
	pending := c.requests.Pending()
	demand, _, waiters := c.engine.Free()
	switch {
	case slices.Contains(pending, id):
		return api.Exists
	case len(pending) == c.options.Requests:
		return api.Full
	case demand < places || waiters < waits:
		return api.Busy
	}
	return api.OK
}

// needs is how many of the blocks that are read need a place for a demand, and how many are waited for.
func (c *Cache) needs(blocks []int) (places, waits int) {
	for _, block := range blocks {
		if _, isHit := c.hit(block); isHit {
			continue
		}
		waits++
		if c.engine.Needs(block) {
			places++
		}
	}
	return places, waits
}

// hit is the value of a block that is a hit. What is still to be done with a block may change it, so that its lane must be empty.
func (c *Cache) hit(block int) (uint64, bool) {
	if value, valid := c.Cached(block); valid && c.engine.Idle(block) {
		return value, true
	}
	return 0, false
}

// access tells the tracker of a read: what that finds, and the read's list.
func (c *Cache) access(first, count int) (api.Found, int) {
	found, _ := c.tracker.Access(first, count)
	c.tell(api.Event{Kind: api.EvAccess, Block: first, Count: count, Stream: found.Stream})
	if found.Stream == 0 {
		return found, api.Rand
	}
	return found, api.Seq
}

// readBlock reads a block for a place of a request: at once, if it is a hit.
func (c *Cache) readBlock(block, list int, w api.Waiter) {
	c.tellRead(block, list)
	if value, isHit := c.hit(block); isHit {
		c.requests.Give(w.Req, w.Place, value)
		c.count(api.Tally{Hits: 1})
		return
	}
	// There is room for it: it was asked for ahead of the first block.
	t, joined, late, _ := c.engine.Read(block, list, w)
	if !joined {
		c.count(api.Tally{Missed: 1})
		return
	}
	c.count(api.Tally{Merged: 1})
	if i, framed := c.frames[t.ID]; framed {
		c.pin(i, 1)
	}
	if late {
		c.count(api.Tally{Used: 1})
		c.tellLate(c.takeStream(block))
	}
}

// tellRead tells the policy that a block is read, whether it is in, or not.
func (c *Cache) tellRead(block, list int) {
	i, in := c.table.Get(block)
	if !in {
		c.tell(api.Event{Kind: api.EvMiss, Block: block, List: list})
		c.policy.Miss(list)
		return
	}
	c.tell(api.Event{Kind: api.EvHit, Block: block, List: list})
	c.policy.Hit(i, list)
	if _, was := c.takeUnused(i); was {
		c.count(api.Tally{Used: 1})
	}
}

// lookAhead asks for a block ahead, for a stream, if nobody has it, or has to do with it.
func (c *Cache) lookAhead(block, id int) {
	if _, in := c.table.Get(block); in || !c.engine.Idle(block) {
		return
	}
	c.count(api.Tally{Issued: 1})
	c.streams[block] = id
	if _, code := c.engine.Ahead(block); code != api.OK {
		c.dropAhead(block)
		return
	}
	c.tell(api.Event{Kind: api.EvAhead, Block: block, Stream: id})
}

// dropAhead: a block that was to be asked for ahead isn't.
func (c *Cache) dropAhead(block int) {
	c.count(api.Tally{Dropped: 1})
	c.tell(api.Event{Kind: api.EvDrop, Block: block, Stream: c.takeStream(block)})
}

// takeStream is the stream for which a block was asked ahead, whose it is no more.
func (c *Cache) takeStream(block int) int {
	id := c.streams[block]
	delete(c.streams, block)
	return id
}

// tellLate tells the tracker that somebody waits for what a stream asked for. The stream may be gone by now.
func (c *Cache) tellLate(id int) {
	c.tell(api.Event{Kind: api.EvLate, Stream: id})
	c.tracker.Late(id)
}
