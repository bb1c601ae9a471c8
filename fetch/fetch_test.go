package fetch_test

import (
	"fmt"
	"math"
	"slices"
	"strings"
	"testing"

	"forerunner/api"
	"forerunner/ask"
	"forerunner/fetch"
)

// greats are numbers that are no bound's neighbours, but may come to one by a sum, a difference, or by their lowest bits.
var greats = []int{math.MinInt, math.MinInt + 1, -1 << 32, -1<<32 + 1, 1 << 32, 1<<32 + 1, math.MaxInt - 1, math.MaxInt}

// rig is an engine, and the test that asks it.
type rig struct {
	*testing.T
	g *fetch.Engine
}

// with is an engine of 20 blocks, with the usual options, but for what is turned.
func with(t *testing.T, turn func(o *api.Options)) rig {
	t.Helper()
	o, _ := ask.Usual(20)
	turn(&o)
	g, code := fetch.New(o)
	if g == nil || code != api.OK {
		t.Fatalf("New(%+v): %v %d", o, g, code)
	}
	return rig{t, g}
}

func usual(t *testing.T) rig {
	t.Helper()
	return with(t, func(*api.Options) {})
}

// ones is an engine whose moves are of one block each, 16 of them at most.
func ones(t *testing.T) rig {
	t.Helper()
	return with(t, func(o *api.Options) { o.Span, o.Out = 1, 16 })
}

func who(req, place int) api.Waiter { return api.Waiter{Req: req, Place: place} }

// flags are the words of those that hold, each behind a blank.
func flags(words []string, holds ...bool) string {
	var all string
	for i, word := range words {
		if holds[i] {
			all += " " + word
		}
	}
	return all
}

// ticket is a ticket as a text: number, kind and block, and what isn't 0 or false besides.
func ticket(t api.Ticket) string {
	kind := fmt.Sprint("?", t.Kind)
	if 1 <= t.Kind && t.Kind <= 3 {
		kind = []string{"read", "write", "ahead"}[t.Kind-1]
	}
	text := fmt.Sprint(t.ID, " ", kind, " ", t.Block)
	if t.List != 0 {
		text += fmt.Sprint(" list", t.List)
	}
	if t.Tries != 0 {
		text += fmt.Sprint(" tries", t.Tries)
	}
	if t.Waiters != 0 {
		text += fmt.Sprint(" waiters", t.Waiters)
	}
	return text + flags([]string{"out", "framed", "cut"}, t.Out, t.Framed, t.Cut)
}

// move is a move as a text.
func move(m api.Move) string {
	text := fmt.Sprint("tag", m.Tag, flags([]string{"write"}, m.Write), " ", m.Run.First, "+", m.Run.Count, " tickets", m.Tickets)
	if len(m.Values) > 0 {
		text += fmt.Sprint(" values", m.Values)
	}
	if len(m.Fresh) > 0 {
		text += fmt.Sprint(" fresh", m.Fresh)
	}
	return text
}

// waiters are waiters as a text.
func waiters(all []api.Waiter) string {
	var text string
	for _, w := range all {
		text += fmt.Sprint(" ", w.Req, ".", w.Place)
	}
	return text
}

// outcome is an outcome as a text.
func outcome(o api.Outcome) string {
	fate := fmt.Sprint("?", o.Fate)
	if 0 <= o.Fate && o.Fate <= 2 {
		fate = []string{"ended", "again", "lost"}[o.Fate]
	}
	text := fate + ": " + ticket(o.Ticket)
	if o.Value != 0 {
		text += fmt.Sprint(" value", o.Value)
	}
	if len(o.Waiters) > 0 {
		text += " for" + waiters(o.Waiters)
	}
	return text
}

// left is a ticket that was left as a text.
func left(l api.Left) string { return ticket(l.Ticket) + flags([]string{"gone"}, l.Gone) }

func (r rig) same(what string, got, want []string) {
	r.Helper()
	if !slices.Equal(got, want) {
		r.Errorf("%s: %q, not %q", what, got, want)
	}
}

func texts[E any](all []E, text func(E) string) []string {
	var list []string
	for _, one := range all {
		list = append(list, text(one))
	}
	return list
}

func (r rig) ticketsAre(want ...string) {
	r.Helper()
	r.same("Tickets", texts(r.g.Tickets(), ticket), want)
}

func (r rig) outIs(want ...string) {
	r.Helper()
	r.same("Out", texts(r.g.Out(), move), want)
}

func (r rig) ofIs(ticket int, want ...api.Waiter) {
	r.Helper()
	if got := r.g.Of(ticket); !slices.Equal(got, want) {
		r.Errorf("Of(%d): %v, not %v", ticket, got, want)
	}
}

func (r rig) freeIs(demand, ahead, waiters int) {
	r.Helper()
	if d, a, n := r.g.Free(); d != demand || a != ahead || n != waiters {
		r.Errorf("Free: %d %d %d, not %d %d %d", d, a, n, demand, ahead, waiters)
	}
}

// all is all that is told of an engine: what can be told of it before and behind a call that changes nothing.
func (r rig) all() string {
	d, a, n := r.g.Free()
	tickets := r.g.Tickets()
	text := fmt.Sprint(d, a, n, texts(tickets, ticket), texts(r.g.Out(), move))
	for _, t := range tickets {
		text += fmt.Sprint(t.ID, r.g.Of(t.ID))
	}
	for block := range 256 {
		text += fmt.Sprint(r.g.Needs(block), r.g.Idle(block))
	}
	return text
}

// unchanged does what should change nothing that is told.
func (r rig) unchanged(do func()) {
	r.Helper()
	before := r.all()
	do()
	if behind := r.all(); behind != before {
		r.Errorf("what is told changed from\n%s to\n%s", before, behind)
	}
}

// read lets somebody read a block. How is "new", "joined" or "late".
func (r rig) read(block, list int, w api.Waiter, how, want string) {
	r.Helper()
	t, joined, late, code := r.g.Read(block, list, w)
	if code != api.OK || ticket(t) != want || joined != (how != "new") || late != (how == "late") {
		r.Errorf("Read(%d, %d, %v): %q joined %v late %v code %d, not %s %q", block, list, w, ticket(t), joined, late, code, how, want)
	}
}

func (r rig) readRefused(block, list int, w api.Waiter, want api.Code) {
	r.Helper()
	r.unchanged(func() {
		r.Helper()
		if t, joined, late, code := r.g.Read(block, list, w); code != want || t != (api.Ticket{}) || joined || late {
			r.Errorf("Read(%d, %d, %v): %v %v %v %d, not %d alone", block, list, w, t, joined, late, code, want)
		}
	})
}

func (r rig) write(block int, value uint64, w api.Waiter, gone int, want string) {
	r.Helper()
	if t, g, code := r.g.Write(block, value, w); code != api.OK || ticket(t) != want || g != gone {
		r.Errorf("Write(%d, %d, %v): %q %d %d, not %q %d", block, value, w, ticket(t), g, code, want, gone)
	}
}

func (r rig) writeRefused(block int, value uint64, w api.Waiter, want api.Code) {
	r.Helper()
	r.unchanged(func() {
		r.Helper()
		if t, gone, code := r.g.Write(block, value, w); code != want || t != (api.Ticket{}) || gone != 0 {
			r.Errorf("Write(%d, %d, %v): %v %d %d, not %d alone", block, value, w, t, gone, code, want)
		}
	})
}

func (r rig) ahead(block int, want string) {
	r.Helper()
	if t, code := r.g.Ahead(block); code != api.OK || ticket(t) != want {
		r.Errorf("Ahead(%d): %q %d, not %q", block, ticket(t), code, want)
	}
}

func (r rig) aheadRefused(block int, want api.Code) {
	r.Helper()
	r.unchanged(func() {
		r.Helper()
		if t, code := r.g.Ahead(block); code != want || t != (api.Ticket{}) {
			r.Errorf("Ahead(%d): %v %d, not %d alone", block, t, code, want)
		}
	})
}

func (r rig) cut(block int, want string) {
	r.Helper()
	if l, ok := r.g.Cut(block); !ok || left(l) != want {
		r.Errorf("Cut(%d): %q %v, not %q", block, left(l), ok, want)
	}
}

func (r rig) uncut(block int) {
	r.Helper()
	r.unchanged(func() {
		r.Helper()
		if l, ok := r.g.Cut(block); ok || l != (api.Left{}) {
			r.Errorf("Cut(%d): %q %v, not nothing", block, left(l), ok)
		}
	})
}

func (r rig) quit(req int, want ...string) {
	r.Helper()
	l, code := r.g.Quit(req)
	if code != api.OK {
		r.Errorf("Quit(%d): %d", req, code)
	}
	r.same(fmt.Sprint("Quit ", req), texts(l, left), want)
}

func (r rig) busy(req int) {
	r.Helper()
	r.unchanged(func() {
		r.Helper()
		if l, code := r.g.Quit(req); code != api.Busy || len(l) != 0 {
			r.Errorf("Quit(%d): %v %d, not Busy alone", req, l, code)
		}
	})
}

func (r rig) next(room int, want string, dropped ...int) {
	r.Helper()
	if m, d, ok := r.g.Next(room); !ok || move(m) != want || !slices.Equal(d, dropped) {
		r.Errorf("Next(%d): %q %v %v, not %q %v", room, move(m), d, ok, want, dropped)
	}
}

func (r rig) none(room int, dropped ...int) {
	r.Helper()
	if m, d, ok := r.g.Next(room); ok || move(m) != move(api.Move{}) || !slices.Equal(d, dropped) {
		r.Errorf("Next(%d): %q %v %v, not none and %v", room, move(m), d, ok, dropped)
	}
}

func (r rig) finish(tag int, well bool, want ...string) {
	r.Helper()
	l, code := r.g.Finish(tag, well)
	if code != api.OK {
		r.Errorf("Finish(%d, %v): %d", tag, well, code)
	}
	r.same(fmt.Sprintf("Finish(%d, %v)", tag, well), texts(l, outcome), want)
}

func (r rig) unfinished(tag int) {
	r.Helper()
	r.unchanged(func() {
		r.Helper()
		for _, well := range []bool{true, false} {
			if l, code := r.g.Finish(tag, well); code != api.NotFound || len(l) != 0 {
				r.Errorf("Finish(%d, %v): %v %d, not NotFound alone", tag, well, l, code)
			}
		}
	})
}

func (r rig) serve(block int, want string) {
	r.Helper()
	if t, all, ok := r.g.Serve(block); !ok || ticket(t)+" for"+waiters(all) != want {
		r.Errorf("Serve(%d): %q for%s %v, not %q", block, ticket(t), waiters(all), ok, want)
	}
}

func (r rig) unserved(block int) {
	r.Helper()
	r.unchanged(func() {
		r.Helper()
		if t, all, ok := r.g.Serve(block); ok || t != (api.Ticket{}) || len(all) != 0 {
			r.Errorf("Serve(%d): %v %v %v, not nothing", block, t, all, ok)
		}
	})
}

// heads are the states in which a lane's head may be, of block 7, for which request 1's place 0 waits, if anybody does. Its number is 1, and nothing else is there; but a head that was tried again failed as move 1.
var heads = []struct {
	name, is string
	make     func(r rig)
}{
	{"nothing", "", func(r rig) {}},
	{"a Read", "1 read 7 list1 waiters1", func(r rig) { r.g.Read(7, api.Rand, who(1, 0)) }},
	{"a Read that is Out", "1 read 7 list1 waiters1 out framed", func(r rig) { r.g.Read(7, api.Rand, who(1, 0)); r.g.Next(1) }},
	{"a Read again", "1 read 7 list1 tries1 waiters1 framed", func(r rig) { r.g.Read(7, api.Rand, who(1, 0)); r.g.Next(1); r.g.Finish(1, false) }},
	{"a Read again that is Out", "1 read 7 list1 tries1 waiters1 out framed", func(r rig) {
		r.g.Read(7, api.Rand, who(1, 0))
		r.g.Next(1)
		r.g.Finish(1, false)
		r.g.Next(0)
	}},
	{"a Read that is Out, and Cut", "1 read 7 list1 waiters1 out framed cut", func(r rig) { r.g.Read(7, api.Rand, who(1, 0)); r.g.Next(1); r.g.Cut(7) }},
	{"a Read again that is Cut", "1 read 7 list1 tries1 waiters1 framed cut", func(r rig) {
		r.g.Read(7, api.Rand, who(1, 0))
		r.g.Next(1)
		r.g.Finish(1, false)
		r.g.Cut(7)
	}},
	{"a Read that is Out, and left", "1 read 7 list1 out framed", func(r rig) { r.g.Read(7, api.Rand, who(1, 0)); r.g.Next(1); r.g.Quit(1) }},
	{"a Write", "1 write 7 waiters1", func(r rig) { r.g.Write(7, 70, who(1, 0)) }},
	{"a Write that is Out", "1 write 7 waiters1 out", func(r rig) { r.g.Write(7, 70, who(1, 0)); r.g.Next(0) }},
	{"a Write again", "1 write 7 tries1 waiters1", func(r rig) { r.g.Write(7, 70, who(1, 0)); r.g.Next(0); r.g.Finish(1, false) }},
	{"an Ahead", "1 ahead 7", func(r rig) { r.g.Ahead(7) }},
	{"an Ahead that is Out", "1 ahead 7 out framed", func(r rig) { r.g.Ahead(7); r.g.Next(1) }},
	{"an Ahead that is Out, and Cut", "1 ahead 7 out framed cut", func(r rig) { r.g.Ahead(7); r.g.Next(1); r.g.Cut(7) }},
	{"a Read that was an Ahead", "1 read 7 list1 waiters1", func(r rig) { r.g.Ahead(7); r.g.Read(7, api.Rand, who(1, 0)) }},
	{"a Read that is Out, and was an Ahead", "1 read 7 list1 waiters1 out framed", func(r rig) { r.g.Ahead(7); r.g.Next(1); r.g.Read(7, api.Rand, who(1, 0)) }},
}

// eachHead does something of an engine of each of these heads. It is told by whether a text is part of the head's.
func eachHead(t *testing.T, do func(r rig, is string)) {
	for _, head := range heads {
		t.Run(head.name, func(t *testing.T) {
			r := usual(t)
			head.make(r)
			if head.is == "" {
				r.ticketsAre()
			} else {
				r.ticketsAre(head.is)
			}
			do(r, head.is)
		})
	}
}

// has tells whether one of the texts is part of a text.
func has(text string, parts ...string) bool {
	return slices.ContainsFunc(parts, func(part string) bool { return strings.Contains(text, part) })
}

// P16.1: an engine is made, and what is told of it.

// fields are the options' fields, with the least and the greatest that each may be.
func fields(o *api.Options) []struct {
	field           *int
	least, greatest int
} {
	return []struct {
		field           *int
		least, greatest int
	}{
		{&o.Blocks, 1, 256}, {&o.Frames, 1, 64}, {&o.Bottom, 1, 64}, {&o.Demand, 1, 64}, {&o.Ahead, 0, 64},
		{&o.Out, 1, 16}, {&o.Span, 1, 8}, {&o.Tries, 1, 8}, {&o.Requests, 1, 16}, {&o.Waiters, 1, 64},
		{&o.Streams, 1, 16}, {&o.Table, 1, 32}, {&o.Life, 1, 64}, {&o.Degree, 1, 16},
	}
}

func newIs(t *testing.T, o api.Options, want api.Code) {
	t.Helper()
	if g, code := fetch.New(o); code != want || (g != nil) != (want == api.OK) {
		t.Errorf("New(%+v): %v %d, not %d", o, g, code, want)
	}
}

func TestNew(t *testing.T) {
	var least, greatest api.Options
	for i := range fields(&least) {
		*fields(&least)[i].field = fields(&least)[i].least
		*fields(&greatest)[i].field = fields(&greatest)[i].greatest
	}
	newIs(t, least, api.OK)
	newIs(t, greatest, api.OK)
	for i := range fields(&least) {
		low, high := least, greatest
		*fields(&low)[i].field--
		newIs(t, low, api.Arg)
		*fields(&high)[i].field++
		newIs(t, high, api.Arg)
		for _, great := range greats {
			*fields(&low)[i].field = great
			newIs(t, low, api.Arg)
		}
	}
	o, _ := ask.Usual(20)
	o.Bottom = o.Frames
	newIs(t, o, api.OK)
	o.Bottom++
	newIs(t, o, api.Arg)
	newIs(t, api.Options{}, api.Arg)
}

func TestAtFirstThereIsNothing(t *testing.T) {
	for _, c := range [][3]int{{1, 0, 1}, {1, 1, 1}, {64, 64, 64}, {7, 5, 3}, {2, 0, 9}} {
		r := with(t, func(o *api.Options) { o.Demand, o.Ahead, o.Waiters = c[0], c[1], c[2] })
		for range 2 { // asking changes nothing
			r.freeIs(c[0], c[1], c[2])
			r.ticketsAre()
			r.outIs()
			r.none(9)
			r.unfinished(1)
			r.quit(1)
			for _, n := range append([]int{-1, 0, 1, 2, 19, 20}, greats...) {
				r.ofIs(n)
				r.uncut(n)
				r.unserved(n)
				r.unfinished(n)
				r.quit(n)
			}
		}
		r.read(3, api.Rand, who(1, 0), "new", "1 read 3 list1 waiters1")
	}
}

func TestFreeIsWhatIsLeft(t *testing.T) {
	r := with(t, func(o *api.Options) { o.Demand, o.Ahead, o.Waiters, o.Tries = 5, 3, 9, 2 })
	for _, step := range []struct {
		do                     func()
		demand, ahead, waiters int
	}{
		{func() { r.g.Read(3, api.Seq, who(1, 0)) }, 4, 3, 8},
		{func() { r.g.Read(3, api.Seq, who(2, 0)) }, 4, 3, 7}, // joined
		{func() { r.g.Ahead(5) }, 4, 2, 7},
		{func() { r.g.Ahead(6) }, 4, 1, 7},
		{func() { r.g.Ahead(7) }, 4, 0, 7},
		{func() { r.g.Read(5, api.Seq, who(3, 0)) }, 3, 1, 6}, // late
		{func() { r.g.Write(6, 1, who(4, 0)) }, 2, 2, 5},      // an Ahead went
		{func() { r.g.Cut(7) }, 2, 3, 5},
		{func() { r.g.Next(9) }, 2, 3, 5},          // what is out has its place
		{func() { r.g.Finish(1, false) }, 2, 3, 5}, // and what waits again
		{func() { r.g.Quit(2) }, 2, 3, 6},
		{func() { r.g.Quit(1) }, 3, 3, 7}, // it is gone
		{func() { r.g.Serve(5) }, 4, 3, 8},
		{func() { r.g.Next(0) }, 4, 3, 8},
		{func() { r.g.Finish(2, true) }, 5, 3, 9},
	} {
		step.do()
		r.freeIs(step.demand, step.ahead, step.waiters)
	}
	r.ticketsAre()
}

func TestTicketsAreToldByRisingNumbers(t *testing.T) {
	r := usual(t)
	r.g.Read(9, api.Rand, who(1, 0))
	r.g.Ahead(8)
	r.g.Ahead(7)
	r.g.Write(6, 60, who(1, 1))
	r.g.Read(6, api.Seq, who(2, 1))
	r.g.Read(8, api.Rand, who(1, 2)) // it has a later turn now, but the same number
	want := []string{"1 read 9 list1 waiters1", "2 read 8 list1 waiters1", "3 ahead 7", "4 write 6 waiters1", "5 read 6 waiters1"}
	for range 20 { // whatever the order in which a map is gone through
		r.ticketsAre(want...)
	}
}

func TestMovesAreToldByRisingTags(t *testing.T) {
	r := ones(t)
	var want []string
	for i := range 16 {
		r.g.Read(19-i, api.Rand, who(1+i, 0))
		r.g.Next(1)
		want = append(want, fmt.Sprintf("tag%d %d+1 tickets[%d] fresh[%d]", i+1, 19-i, i+1, 19-i))
	}
	for range 20 { // whatever the order in which a map is gone through
		r.outIs(want...)
	}
	r.g.Finish(3, true)
	r.outIs(slices.Delete(slices.Clone(want), 2, 3)...)
}

func TestOfTellsThemAsTheyCame(t *testing.T) {
	r := usual(t)
	r.g.Read(9, api.Rand, who(5, 3))
	r.g.Write(8, 1, who(4, 4))
	r.g.Read(9, api.Rand, who(2, 7))
	r.g.Read(9, api.Rand, who(5, 1))
	r.g.Ahead(3)
	r.ofIs(1, who(5, 3), who(2, 7), who(5, 1))
	r.ofIs(2, who(4, 4))
	for _, n := range append([]int{-1, 0, 3, 4, 9}, greats...) {
		r.ofIs(n)
	}
	r.g.Quit(2)
	r.ofIs(1, who(5, 3), who(5, 1))
}

// spoil writes over all that a list has room for.
func spoil[E any](list []E, with E) {
	list = list[:cap(list)]
	for i := range list {
		list[i] = with
	}
}

func TestWhatIsToldIsMemoryOfItsOwn(t *testing.T) {
	r := with(t, func(o *api.Options) { o.Tries = 1 })
	r.g.Write(3, 30, who(1, 0))
	r.g.Write(4, 40, who(1, 1))
	r.g.Read(5, api.Rand, who(2, 0))
	r.g.Read(6, api.Rand, who(2, 1))
	r.g.Read(6, api.Rand, who(3, 1))
	r.g.Read(9, api.Rand, who(3, 2))
	spoilMove := func(m api.Move) {
		spoil(m.Tickets, 77)
		spoil(m.Values, 77)
		spoil(m.Fresh, 77)
	}
	r.unchanged(func() {
		spoil(r.g.Tickets(), api.Ticket{ID: 77})
		spoil(r.g.Of(4), who(77, 7))
	})
	for range 2 {
		m, _, _ := r.g.Next(9)
		spoilMove(m)
	}
	for range 2 {
		r.outIs("tag1 write 3+2 tickets[1 2] values[30 40]", "tag2 5+2 tickets[3 4] fresh[5 6]")
		for _, m := range r.g.Out() {
			spoilMove(m)
		}
	}
	l, _ := r.g.Finish(2, false)
	spoil(l[0].Waiters, who(77, 7))
	if got := waiters(l[1].Waiters); got != " 2.1 3.1" {
		t.Errorf("another ticket's waiters are%s", got)
	}
	r.finish(1, true, "ended: 1 write 3 waiters1 out value30 for 1.0", "ended: 2 write 4 waiters1 out value40 for 1.1")
	_, all, _ := r.g.Serve(9)
	spoil(all, who(77, 7))
	r.ticketsAre()
}

func TestWhatWasToldStays(t *testing.T) {
	r := usual(t)
	r.g.Read(5, api.Rand, who(2, 0))
	r.g.Read(6, api.Rand, who(2, 1))
	tickets, of := r.g.Tickets(), r.g.Of(1)
	m, _, _ := r.g.Next(9)
	out := r.g.Out()
	r.g.Finish(1, true)
	r.g.Read(5, api.Seq, who(3, 0))
	r.g.Write(6, 9, who(3, 1))
	r.g.Next(9)
	r.same("tickets", texts(tickets, ticket), []string{"1 read 5 list1 waiters1", "2 read 6 list1 waiters1"})
	want := "tag1 5+2 tickets[1 2] fresh[5 6]"
	if waiters(of) != " 2.0" || move(m) != want || move(out[0]) != want {
		t.Errorf("what was told is%s, %q, %q", waiters(of), move(m), move(out[0]))
	}
}

func TestEnginesAreApart(t *testing.T) {
	r, other := usual(t), usual(t)
	r.g.Read(5, api.Rand, who(1, 0))
	r.g.Next(9)
	other.ticketsAre()
	other.outIs()
	other.freeIs(16, 8, 32)
	other.read(5, api.Seq, who(1, 0), "new", "1 read 5 waiters1")
	r.finish(1, true, "ended: 1 read 5 list1 waiters1 out framed for 1.0")
	other.ticketsAre("1 read 5 waiters1")
}

// P16.2: blocks are read.

func TestReadIsANewTicket(t *testing.T) {
	r := usual(t)
	r.read(0, api.Seq, who(1, 0), "new", "1 read 0 waiters1")
	r.read(19, api.Rand, who(1, 7), "new", "2 read 19 list1 waiters1")
	r.read(7, api.Rand, who(math.MaxInt, 3), "new", "3 read 7 list1 waiters1")
	r.ofIs(2, who(1, 7))
	r.ticketsAre("1 read 0 waiters1", "2 read 19 list1 waiters1", "3 read 7 list1 waiters1")
	r.freeIs(13, 8, 29)
}

func TestNumbersRise(t *testing.T) {
	r := usual(t)
	r.read(1, api.Seq, who(1, 0), "new", "1 read 1 waiters1")
	r.quit(1, "1 read 1 gone")
	r.read(1, api.Seq, who(1, 0), "new", "2 read 1 waiters1")
	r.serve(1, "2 read 1 waiters1 for 1.0")
	r.ahead(1, "3 ahead 1")
	r.write(1, 5, who(1, 0), 3, "4 write 1 waiters1")
	r.next(0, "tag1 write 1+1 tickets[4] values[5]")
	r.finish(1, true, "ended: 4 write 1 waiters1 out value5 for 1.0")
	r.ahead(2, "5 ahead 2")
	r.none(0, 2)
	r.readRefused(1, 2, who(1, 0), api.Arg)
	r.ahead(2, "6 ahead 2")
	r.cut(2, "6 ahead 2 gone")
	r.read(1, api.Seq, who(1, 0), "new", "7 read 1 waiters1") // what was refused took no number
}

func TestReadOfEachHead(t *testing.T) {
	eachHead(t, func(r rig, is string) {
		switch {
		case is == "" || has(is, "write", "cut"):
			number := "2"
			if is == "" {
				number = "1"
			}
			r.read(7, api.Seq, who(9, 2), "new", number+" read 7 waiters1")
			if is != "" {
				r.ticketsAre(is, number+" read 7 waiters1")
			}
		case has(is, "ahead"):
			want := strings.ReplaceAll(strings.ReplaceAll(is, "ahead", "read"), "7", "7 list1 waiters1")
			r.read(7, api.Rand, who(9, 2), "late", want)
			r.ticketsAre(want)
			r.freeIs(15, 8, 31)
		default:
			before := r.g.Of(1)
			want := strings.Replace(is, " list1", "", 1)
			if has(is, "waiters1") {
				want = strings.Replace(want, "waiters1", "waiters2", 1)
			} else {
				want = strings.Replace(want, "7", "7 waiters1", 1)
			}
			r.read(7, api.Seq, who(9, 2), "joined", want)
			r.ticketsAre(want)
			r.ofIs(1, append(before, who(9, 2))...)
			r.freeIs(15, 8, 31-len(before))
		}
	})
}

func TestReadJoinsTheLastOnly(t *testing.T) {
	r := usual(t)
	r.read(7, api.Seq, who(1, 0), "new", "1 read 7 waiters1")
	r.write(7, 1, who(2, 0), 0, "2 write 7 waiters1")
	r.read(7, api.Seq, who(3, 0), "new", "3 read 7 waiters1")
	r.read(7, api.Rand, who(4, 0), "joined", "3 read 7 list1 waiters2")
	r.ticketsAre("1 read 7 waiters1", "2 write 7 waiters1", "3 read 7 list1 waiters2")
	r.next(9, "tag1 7+1 tickets[1] fresh[7]")
	r.cut(7, "1 read 7 waiters1 out framed cut")
	r.read(7, api.Seq, who(5, 0), "joined", "3 read 7 waiters3")
}

func TestReadOfALaterTicketThatIsCut(t *testing.T) {
	r := usual(t)
	r.g.Read(7, api.Seq, who(1, 0))
	r.g.Next(9)
	r.g.Cut(7)
	r.read(7, api.Seq, who(2, 0), "new", "2 read 7 waiters1")
	r.read(7, api.Rand, who(3, 0), "joined", "2 read 7 list1 waiters2")
	r.none(9)
	r.finish(1, true, "ended: 1 read 7 waiters1 out framed cut for 1.0")
	r.next(9, "tag2 7+1 tickets[2] fresh[7]")
}

func TestALateReadIsTheLastOfTheDemands(t *testing.T) {
	r := ones(t)
	r.ahead(3, "1 ahead 3")
	r.ahead(2, "2 ahead 2")
	r.read(9, api.Seq, who(1, 0), "new", "3 read 9 waiters1")
	r.read(2, api.Seq, who(1, 1), "late", "2 read 2 waiters1")
	r.read(1, api.Seq, who(1, 2), "new", "4 read 1 waiters1")
	r.read(9, api.Seq, who(2, 2), "joined", "3 read 9 waiters2") // that changes no turn
	for i, want := range []string{"9+1 tickets[3] fresh[9]", "2+1 tickets[2] fresh[2]", "1+1 tickets[4] fresh[1]", "3+1 tickets[1] fresh[3]"} {
		r.next(9, fmt.Sprint("tag", i+1, " ", want))
	}
}

func TestWhatIsOutAndReadLateComesBackAsARead(t *testing.T) {
	r := usual(t)
	r.ahead(3, "1 ahead 3")
	r.next(1, "tag1 3+1 tickets[1] fresh[3]")
	r.read(3, api.Rand, who(1, 0), "late", "1 read 3 list1 waiters1 out framed")
	r.none(9) // it doesn't wait
	r.finish(1, false, "again: 1 read 3 list1 waiters1 out framed")
	r.next(0, "tag2 3+1 tickets[1]")
	r.finish(2, true, "ended: 1 read 3 list1 tries1 waiters1 out framed for 1.0")
}

func TestReadTakesTheList(t *testing.T) {
	r := usual(t)
	for i, list := range []int{api.Rand, api.Seq, api.Seq, api.Rand, api.Rand, api.Seq} {
		how, text := "joined", ""
		if i == 0 {
			how = "new"
		}
		if list == api.Rand {
			text = " list1"
		}
		r.read(3, list, who(1+i, 0), how, fmt.Sprint("1 read 3", text, " waiters", i+1))
	}
}

// crowded is an engine with no place for a demand, and room for waiters, in which each of 1.0, 1.1, 2.0 waits.
func crowded(t *testing.T) rig {
	r := with(t, func(o *api.Options) { o.Demand, o.Ahead, o.Waiters = 3, 2, 5 })
	r.g.Read(3, api.Seq, who(1, 0))
	r.g.Write(4, 40, who(1, 1))
	r.g.Read(5, api.Seq, who(2, 0))
	r.g.Ahead(8)
	return r
}

func TestReadWithoutPlace(t *testing.T) {
	r := crowded(t)
	r.readRefused(9, api.Seq, who(3, 0), api.Full)
	r.readRefused(4, api.Seq, who(3, 0), api.Full)  // a Write isn't joined
	r.readRefused(8, api.Rand, who(3, 0), api.Full) // an Ahead would be a demand
	r.read(3, api.Rand, who(3, 0), "joined", "1 read 3 list1 waiters2")
	r.next(9, "tag1 3+1 tickets[1] fresh[3]")
	r.read(3, api.Seq, who(3, 1), "joined", "1 read 3 waiters3 out framed")
	r.readRefused(5, api.Seq, who(3, 2), api.Full) // no room for a waiter
	r.quit(1, "1 read 3 waiters2 out framed", "2 write 4 gone")
	r.g.Cut(3)
	r.read(8, api.Rand, who(4, 0), "late", "4 read 8 list1 waiters1")
	r.readRefused(3, api.Seq, who(5, 0), api.Full) // what is Cut isn't joined
}

func TestReadWithoutRoomForAWaiter(t *testing.T) {
	for room := 1; room <= 64; room++ {
		r := with(t, func(o *api.Options) { o.Waiters, o.Demand = room, 64 })
		r.g.Ahead(5)
		for i := range room {
			if i%2 == 0 {
				r.read(3, api.Seq, who(1+i/8, i%8), []string{"new", "joined"}[min(i, 1)], fmt.Sprint("2 read 3 waiters", i/2+1))
			} else {
				r.g.Write(4, 1, who(1+i/8, i%8))
			}
		}
		r.readRefused(3, api.Seq, who(99, 0), api.Full)
		r.readRefused(5, api.Seq, who(99, 0), api.Full)
		r.readRefused(9, api.Seq, who(99, 0), api.Full)
		r.writeRefused(9, 1, who(99, 0), api.Full)
		r.writeRefused(5, 1, who(99, 0), api.Full)
		r.writeRefused(5, 1, who(1, 0), api.Exists)
	}
}

func TestReadOfWhoWaits(t *testing.T) {
	r := usual(t)
	r.g.Read(3, api.Seq, who(1, 0))
	r.g.Write(4, 40, who(1, 1))
	r.g.Next(9)
	r.g.Ahead(5)
	for _, w := range []api.Waiter{who(1, 0), who(1, 1)} {
		for block := range 7 { // of their own block, and of others
			r.readRefused(block, api.Rand, w, api.Exists)
			r.writeRefused(block, 7, w, api.Exists)
		}
	}
	r.read(3, api.Seq, who(1, 2), "joined", "1 read 3 waiters2 out framed")
	r.finish(1, true, "ended: 1 read 3 waiters2 out framed for 1.0 1.2")
	r.read(5, api.Rand, who(1, 0), "late", "3 read 5 list1 waiters1") // who was told may wait again
}

func TestReadOfWhatMayNotBe(t *testing.T) {
	r := crowded(t)
	for _, block := range append([]int{-1, -3, 20, 21, 255, 256}, greats...) {
		r.readRefused(block, api.Seq, who(3, 0), api.Arg)
		r.writeRefused(block, 1, who(3, 0), api.Arg)
		r.aheadRefused(block, api.Arg)
	}
	for _, list := range append([]int{-1, 2, 3}, greats...) {
		r.readRefused(3, list, who(3, 0), api.Arg)
	}
	for _, n := range append([]int{-1, 0}, greats...) {
		for _, block := range []int{3, 8, 9} {
			if n < 1 {
				r.readRefused(block, api.Seq, who(n, 0), api.Arg)
				r.writeRefused(block, 1, who(n, 0), api.Arg)
			}
			if n != 0 {
				r.readRefused(block, api.Seq, who(3, n), api.Arg)
				r.writeRefused(block, 1, who(3, n), api.Arg)
			}
			r.readRefused(block, api.Seq, who(3, 8), api.Arg)
			r.writeRefused(block, 1, who(3, 8), api.Arg)
		}
	}
}

func TestRefusedByTheCodeThatIsNamedFirst(t *testing.T) {
	r := crowded(t)
	for _, c := range []struct {
		block, list int
		w           api.Waiter
		want        api.Code
	}{
		{20, 0, who(1, 0), api.Arg}, {20, 0, who(3, 0), api.Arg}, {3, 2, who(1, 0), api.Arg}, {9, 2, who(3, 0), api.Arg},
		{3, 0, who(1, 8), api.Arg}, {9, 0, who(0, 0), api.Arg}, {9, 0, who(1, -1), api.Arg},
		{3, 0, who(1, 0), api.Exists}, {5, 1, who(1, 1), api.Exists}, {9, 0, who(2, 0), api.Exists}, {8, 0, who(2, 0), api.Exists},
		{9, 0, who(2, 1), api.Full}, {8, 0, who(3, 0), api.Full},
	} {
		r.readRefused(c.block, c.list, c.w, c.want)
		if c.list != 2 {
			r.writeRefused(c.block, 5, c.w, c.want)
		}
	}
	r.aheadRefused(3, api.Busy)
	r.g.Ahead(9)
	r.aheadRefused(3, api.Busy) // there is no place ahead, too
	r.aheadRefused(20, api.Arg)
	r.aheadRefused(10, api.Full)
	r.read(3, api.Seq, who(6, 0), "joined", "1 read 3 waiters2")
	r.read(3, api.Seq, who(6, 1), "joined", "1 read 3 waiters3")
	r.readRefused(3, api.Seq, who(6, 1), api.Exists) // there is no room, too
	r.readRefused(3, api.Seq, who(6, 8), api.Arg)
}

func TestNeeds(t *testing.T) {
	eachHead(t, func(r rig, is string) {
		if want := !(has(is, "read") && !has(is, "cut")); r.g.Needs(7) != want {
			t.Errorf("Needs of %q: %v", is, !want)
		}
		r.unchanged(func() { r.g.Needs(7) })
		for _, block := range []int{0, 6, 8, 19} {
			if !r.g.Needs(block) {
				t.Errorf("Needs(%d), an empty lane: false", block)
			}
		}
		for _, block := range append([]int{-1, 20, 255, 256}, greats...) {
			if r.g.Needs(block) {
				t.Errorf("Needs(%d), no block: true", block)
			}
		}
	})
}

func TestNeedsOfTheLast(t *testing.T) {
	r := usual(t)
	r.g.Read(7, api.Seq, who(1, 0))
	r.g.Write(7, 1, who(1, 1))
	if !r.g.Needs(7) {
		t.Error("a Write is the last: it doesn't need a place")
	}
	r.g.Read(7, api.Seq, who(1, 2))
	if r.g.Needs(7) {
		t.Error("a Read is the last: it needs a place")
	}
}

func TestIdle(t *testing.T) {
	eachHead(t, func(r rig, is string) {
		if want := is == ""; r.g.Idle(7) != want {
			t.Errorf("Idle of %q: %v", is, !want)
		}
		for _, block := range []int{0, 6, 8, 19} {
			if !r.g.Idle(block) {
				t.Errorf("Idle(%d), an empty lane: false", block)
			}
		}
		for _, block := range append([]int{-1, 20, 255, 256}, greats...) {
			if r.g.Idle(block) {
				t.Errorf("Idle(%d), no block: true", block)
			}
		}
	})
}

// P16.3: blocks are written, and asked for ahead.

func TestWriteOfEachHead(t *testing.T) {
	eachHead(t, func(r rig, is string) {
		before := r.g.Of(1)
		switch is {
		case "":
			r.write(7, 99, who(9, 3), 0, "1 write 7 waiters1")
			r.ticketsAre("1 write 7 waiters1")
		case "1 ahead 7":
			r.write(7, 99, who(9, 3), 1, "2 write 7 waiters1")
			r.ticketsAre("2 write 7 waiters1")
			r.freeIs(15, 8, 31)
		default:
			r.write(7, 99, who(9, 3), 0, "2 write 7 waiters1")
			r.ticketsAre(is, "2 write 7 waiters1")
			r.ofIs(1, before...)
			r.ofIs(2, who(9, 3))
		}
	})
}

func TestWriteIsATicketOfItsOwn(t *testing.T) {
	r := ones(t)
	for i, value := range []uint64{0, 1, math.MaxUint64, 5} {
		r.write(3, value, who(1+i, 0), 0, fmt.Sprint(1+i, " write 3 waiters1"))
	}
	r.next(0, "tag1 write 3+1 tickets[1] values[0]")
	r.none(9)
	r.finish(1, true, "ended: 1 write 3 waiters1 out for 1.0")
	r.next(0, "tag2 write 3+1 tickets[2] values[1]")
	r.finish(2, true, "ended: 2 write 3 waiters1 out value1 for 2.0")
	r.next(0, "tag3 write 3+1 tickets[3] values[18446744073709551615]")
	r.finish(3, true, "ended: 3 write 3 waiters1 out value18446744073709551615 for 3.0")
}

func TestWriteWithoutPlaceLeavesTheAhead(t *testing.T) {
	r := crowded(t)
	r.writeRefused(8, 1, who(3, 0), api.Full) // an Ahead's place is no demand's
	r.writeRefused(9, 1, who(3, 0), api.Full)
	r.writeRefused(3, 1, who(3, 0), api.Full)
	r.quit(2, "3 read 5 gone")
	r.write(8, 1, who(3, 0), 4, "5 write 8 waiters1")
	r.ticketsAre("1 read 3 waiters1", "2 write 4 waiters1", "5 write 8 waiters1")
}

func TestAheadOfEachHead(t *testing.T) {
	eachHead(t, func(r rig, is string) {
		if is == "" {
			r.ahead(7, "1 ahead 7")
			r.freeIs(16, 7, 32)
		} else {
			r.aheadRefused(7, api.Busy)
		}
	})
}

func TestAheadWithoutPlace(t *testing.T) {
	for _, places := range []int{0, 1, 2, 8, 15} {
		r := with(t, func(o *api.Options) { o.Ahead = places })
		for block := range places {
			r.ahead(block, fmt.Sprint(block+1, " ahead ", block))
		}
		r.aheadRefused(19, api.Full)
		r.freeIs(16, 0, 32)
	}
}

func TestAsManyTicketsAsThereMayBe(t *testing.T) {
	r := with(t, func(o *api.Options) { o.Blocks, o.Demand, o.Ahead, o.Waiters = 256, 64, 64, 64 })
	for i := range 64 {
		r.write(0, 1, who(1+i, 0), 0, fmt.Sprint(1+i, " write 0 waiters1"))
	}
	for i := range 64 {
		r.ahead(255-i, fmt.Sprint(65+i, " ahead ", 255-i))
	}
	r.freeIs(0, 0, 0)
	if n := len(r.g.Tickets()); n != 128 {
		t.Errorf("%d tickets", n)
	}
	r.aheadRefused(1, api.Full)
	r.writeRefused(1, 1, who(99, 0), api.Full)
}

// P16.4: nobody joins any more.

func TestCutOfEachHead(t *testing.T) {
	eachHead(t, func(r rig, is string) {
		switch {
		case is == "1 ahead 7":
			r.cut(7, "1 ahead 7 gone")
			r.ticketsAre()
			r.freeIs(16, 8, 32)
		case has(is, "framed") && !has(is, "cut"):
			free := r.all()
			r.cut(7, is+" cut")
			r.ticketsAre(is + " cut")
			if behind := r.all(); strings.Split(behind, "[")[0] != strings.Split(free, "[")[0] {
				t.Errorf("what is free changed: %s to %s", free, behind)
			}
			if !r.g.Needs(7) {
				t.Error("it may be joined")
			}
		}
		r.uncut(7) // each just once
		r.uncut(6)
		r.uncut(20)
		r.uncut(-1)
	})
}

func TestCutIsOfTheHeadAlone(t *testing.T) {
	r := usual(t)
	r.g.Write(7, 1, who(1, 0))
	r.g.Read(7, api.Seq, who(1, 1))
	r.uncut(7)
	r.g.Next(0)
	r.uncut(7)
	r.g.Finish(1, true)
	r.uncut(7) // a Read without a frame
	r.g.Next(9)
	r.cut(7, "2 read 7 waiters1 out framed cut")
}

func TestWhatIsCutIsTriedAgain(t *testing.T) {
	r := usual(t)
	r.g.Read(7, api.Rand, who(1, 0))
	r.g.Next(1)
	r.g.Cut(7)
	r.finish(1, false, "again: 1 read 7 list1 waiters1 out framed cut")
	r.ticketsAre("1 read 7 list1 tries1 waiters1 framed cut")
	r.read(7, api.Seq, who(2, 0), "new", "2 read 7 waiters1")
	r.next(0, "tag2 7+1 tickets[1]")
	r.finish(2, true, "ended: 1 read 7 list1 tries1 waiters1 out framed cut for 1.0")
	r.ticketsAre("2 read 7 waiters1")
}

// P16.5: requests quit.

func TestQuitOfEachHead(t *testing.T) {
	eachHead(t, func(r rig, is string) {
		alone := strings.Replace(is, " waiters1", "", 1)
		switch {
		case !has(is, "waiters"):
			r.quit(1)
			r.quit(2)
			if is != "" {
				r.ticketsAre(is)
			}
		case has(is, "write") && has(is, "out"):
			r.busy(1)
		case has(is, "out"):
			r.quit(1, alone)
			r.ticketsAre(alone)
			r.freeIs(15, 8, 32)
		default:
			r.quit(1, alone+" gone")
			r.ticketsAre()
			r.freeIs(16, 8, 32)
		}
	})
}

// shared is an engine with many tickets for which several wait: 1 and 5 are out, and 4 waits behind 2.
func shared(t *testing.T) rig {
	r := usual(t)
	r.g.Read(3, api.Seq, who(1, 0))
	r.g.Next(9)
	r.g.Write(6, 60, who(1, 5))
	r.g.Read(9, api.Rand, who(2, 0))
	r.g.Read(6, api.Rand, who(2, 1))
	r.g.Read(6, api.Rand, who(1, 4))
	r.g.Read(9, api.Rand, who(1, 3))
	r.g.Read(9, api.Rand, who(1, 1))
	r.g.Read(3, api.Seq, who(2, 4))
	r.g.Read(3, api.Seq, who(1, 7))
	r.g.Read(9, api.Rand, who(3, 0))
	return r
}

func TestQuitTellsEachTicketOnce(t *testing.T) {
	for range 20 { // whatever the order in which a map is gone through
		r := shared(t)
		r.quit(1, "1 read 3 waiters1 out framed", "2 write 6 gone", "3 read 9 list1 waiters2", "4 read 6 list1 waiters1")
		r.ticketsAre("1 read 3 waiters1 out framed", "3 read 9 list1 waiters2", "4 read 6 list1 waiters1")
		r.ofIs(1, who(2, 4))
		r.ofIs(3, who(2, 0), who(3, 0))
		r.ofIs(4, who(2, 1))
		r.freeIs(13, 8, 28)
		r.quit(1)
		r.quit(2, "1 read 3 out framed", "3 read 9 list1 waiters1", "4 read 6 list1 gone")
		r.quit(3, "3 read 9 list1 gone")
		r.ticketsAre("1 read 3 out framed")
	}
}

func TestQuitOfNone(t *testing.T) {
	r := shared(t)
	r.unchanged(func() {
		for _, req := range append([]int{-1, 0, 4, 5, 9}, greats...) {
			r.quit(req)
		}
	})
}

func TestQuitIsBusyByAWriteThatIsOut(t *testing.T) {
	for range 20 { // whatever the order in which a map is gone through
		r := shared(t)
		r.next(0, "tag2 write 6+1 tickets[2] values[60]")
		r.busy(1)
		r.busy(1)
		r.g.Write(6, 61, who(3, 1))
		r.quit(2, "1 read 3 waiters2 out framed", "3 read 9 list1 waiters3", "4 read 6 list1 waiters1") // another one's isn't its own
		r.finish(2, false, "again: 2 write 6 waiters1 out value60")
		r.quit(1, "1 read 3 out framed", "2 write 6 tries1 gone", "3 read 9 list1 waiters1", "4 read 6 list1 gone")
		r.next(0, "tag3 write 6+1 tickets[5] values[61]")
		r.busy(3)
		r.finish(3, true, "ended: 5 write 6 waiters1 out value61 for 3.1")
		r.quit(3, "3 read 9 list1 gone")
	}
}

func TestWhatWasLeftIsJoinedAgain(t *testing.T) {
	r := usual(t)
	r.g.Read(7, api.Rand, who(1, 0))
	r.g.Next(1)
	r.quit(1, "1 read 7 list1 out framed")
	r.read(7, api.Rand, who(1, 0), "joined", "1 read 7 list1 waiters1 out framed")
	r.finish(1, false, "again: 1 read 7 list1 waiters1 out framed")
	r.quit(1, "1 read 7 list1 tries1 framed gone")
	r.none(9)
}

func TestWhoStoodBehindIsTheHead(t *testing.T) {
	r := usual(t)
	r.g.Write(7, 1, who(1, 0))
	r.g.Read(7, api.Seq, who(2, 0))
	r.unserved(7)
	r.quit(1, "1 write 7 gone")
	r.serve(7, "2 read 7 waiters1 for 2.0")
}
