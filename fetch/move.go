package fetch

import (
	"slices"

	"forerunner/api"
	"forerunner/run"
)

// Next: the next move.
func (e *Engine) Next(room int) (m api.Move, dropped []int, ok bool) {
	if len(e.moves) >= e.options.Out {
		return api.Move{}, nil, false
	}
	room = max(room, 0)
	for _, id := range e.turns.Waiting() {
		one := e.tickets[id]
		switch {
		case e.head(one.Block) != one:
			continue
		case room > 0 || !one.needsFrame():
			return e.begin(one, room), dropped, true
		case one.Kind == api.Ahead:
			e.end(one)
			dropped = append(dropped, one.Block)
		}
	}
	return api.Move{}, dropped, false
}

// Finish: a move is finished. NotFound.
func (e *Engine) Finish(tag int, well bool) ([]api.Outcome, api.Code) {
	m, isOut := e.moves[tag]
	if !isOut {
		return nil, api.NotFound
	}
	delete(e.moves, tag)
	var outcomes []api.Outcome
	for _, id := range m.Tickets {
		outcomes = append(outcomes, e.outcome(e.tickets[id], well))
	}
	return outcomes, api.OK
}

// Out: all moves that are out.
func (e *Engine) Out() []api.Move {
	var moves []api.Move
	for _, tag := range rising(e.moves) {
		moves = append(moves, cloned(e.moves[tag]))
	}
	return moves
}

// begin lets a move go out: a head for which there is room, and those around it.
func (e *Engine) begin(one *ticket, room int) api.Move {
	ready, needy := e.readyWith(one.Kind)
	blocks, _ := run.Around(ready, needy, one.Block, e.options.Span, room)
	e.lastTag++
	m := api.Move{Tag: e.lastTag, Write: one.Kind == api.Write, Run: blocks}
	for _, block := range run.Blocks(blocks) {
		e.takeAlong(e.head(block), &m)
	}
	e.moves[m.Tag] = m
	return cloned(m)
}

// readyWith is the blocks whose heads could go out with one of that kind, and those of them that need a frame.
func (e *Engine) readyWith(kind int) (ready, needy []int) {
	for _, id := range e.lanes.Heads() {
		head := e.tickets[id]
		if head.Out || head.Kind != kind {
			continue
		}
		ready = append(ready, head.Block)
		if head.needsFrame() {
			needy = append(needy, head.Block)
		}
	}
	return ready, needy
}

// takeAlong lets a ticket go out with a move, behind those that it has.
func (e *Engine) takeAlong(one *ticket, m *api.Move) {
	m.Tickets = append(m.Tickets, one.ID)
	if one.needsFrame() {
		m.Fresh = append(m.Fresh, one.Block)
		one.Framed = true
	}
	if m.Write {
		m.Values = append(m.Values, one.value)
	}
	one.Out = true
	e.turns.Start(one.ID)
}

// outcome lets a ticket come in again: it ends, or is to be tried again.
func (e *Engine) outcome(one *ticket, well bool) api.Outcome {
	told := e.told(one)
	o := api.Outcome{Ticket: told, Fate: e.fate(told, well), Value: one.value}
	if o.Fate == api.Again {
		one.Tries++
		one.Out = false
		e.turns.Again(one.ID)
		return o
	}
	e.end(one)
	o.Waiters = e.register.Take(one.ID)
	return o
}

// fate is what becomes of a ticket, as it was ahead of how it came out.
func (e *Engine) fate(t api.Ticket, well bool) int {
	switch {
	case well:
		return api.Ended
	case t.Waiters > 0 && t.Tries+1 < e.options.Tries:
		return api.Again
	}
	return api.Lost
}

// cloned is a move with memory of its own.
func cloned(m api.Move) api.Move {
	m.Tickets = slices.Clone(m.Tickets)
	m.Values = slices.Clone(m.Values)
	m.Fresh = slices.Clone(m.Fresh)
	return m
}
