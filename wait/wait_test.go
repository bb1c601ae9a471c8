package wait_test

import (
	"math"
	"slices"
	"testing"

	"forerunner/api"
	"forerunner/wait"
)

// greats are numbers that are no bound's neighbours, but may come to one by a sum, a difference, or by their lowest bits.
var greats = []int{math.MinInt, math.MinInt + 1, -1 << 32, -1<<32 + 1, 1 << 32, 1<<32 + 1, math.MaxInt - 1, math.MaxInt}

func made(t *testing.T, room int) *wait.Register {
	t.Helper()
	g, code := wait.New(room)
	if g == nil || code != api.OK {
		t.Fatalf("New(%d): %v %d", room, g, code)
	}
	return g
}

func who(req, place int) api.Waiter { return api.Waiter{Req: req, Place: place} }

// add lets waiters wait for a ticket, one behind the other.
func add(t *testing.T, g *wait.Register, ticket int, waiters ...api.Waiter) {
	t.Helper()
	for _, w := range waiters {
		if code := g.Add(ticket, w); code != api.OK {
			t.Errorf("Add(%d, %v): %d", ticket, w, code)
		}
	}
}

func refused(t *testing.T, g *wait.Register, ticket int, w api.Waiter, want api.Code) {
	t.Helper()
	if code := g.Add(ticket, w); code != want {
		t.Errorf("Add(%d, %v): %d, not %d", ticket, w, code, want)
	}
}

func take(t *testing.T, g *wait.Register, ticket int, want ...api.Waiter) {
	t.Helper()
	if got := g.Take(ticket); !slices.Equal(got, want) {
		t.Errorf("Take(%d): %v, not %v", ticket, got, want)
	}
}

func quit(t *testing.T, g *wait.Register, req int, want ...int) {
	t.Helper()
	if got := g.Quit(req); !slices.Equal(got, want) {
		t.Errorf("Quit(%d): %v, not %v", req, got, want)
	}
}

func ofIs(t *testing.T, g *wait.Register, ticket int, want ...api.Waiter) {
	t.Helper()
	if got := g.Of(ticket); !slices.Equal(got, want) {
		t.Errorf("Of(%d): %v, not %v", ticket, got, want)
	}
}

func freeIs(t *testing.T, g *wait.Register, want int) {
	t.Helper()
	if got := g.Free(); got != want {
		t.Errorf("Free: %d, not %d", got, want)
	}
}

func waitsIs(t *testing.T, g *wait.Register, w api.Waiter, want bool) {
	t.Helper()
	if got := g.Waits(w); got != want {
		t.Errorf("Waits(%v): %v, not %v", w, got, want)
	}
}

// stay is a ticket, and who waits for it.
type stay struct {
	ticket int
	waiter api.Waiter
}

// plain is a register as the chapter's words have it: all that wait, in the order in which they came.
type plain struct {
	room  int
	stays []stay
}

func (p *plain) waits(w api.Waiter) bool {
	return slices.ContainsFunc(p.stays, func(s stay) bool { return s.waiter == w })
}

func (p *plain) add(ticket int, w api.Waiter) api.Code {
	switch {
	case ticket < 1 || w.Req < 1 || w.Place < 0 || w.Place > 7:
		return api.Arg
	case p.waits(w):
		return api.Exists
	case len(p.stays) == p.room:
		return api.Full
	}
	p.stays = append(p.stays, stay{ticket, w})
	return api.OK
}

func (p *plain) of(ticket int) []api.Waiter {
	var waiters []api.Waiter
	for _, s := range p.stays {
		if s.ticket == ticket {
			waiters = append(waiters, s.waiter)
		}
	}
	return waiters
}

func (p *plain) take(ticket int) []api.Waiter {
	waiters := p.of(ticket)
	p.stays = slices.DeleteFunc(p.stays, func(s stay) bool { return s.ticket == ticket })
	return waiters
}

func (p *plain) quit(req int) []int {
	var tickets []int
	for _, s := range p.stays {
		if s.waiter.Req == req && !slices.Contains(tickets, s.ticket) {
			tickets = append(tickets, s.ticket)
		}
	}
	slices.Sort(tickets)
	p.stays = slices.DeleteFunc(p.stays, func(s stay) bool { return s.waiter.Req == req })
	return tickets
}

// is asks for all that is told: just these wait, who came in that order.
func is(t *testing.T, g *wait.Register, room int, stays ...stay) {
	t.Helper()
	p := &plain{room: room, stays: stays}
	freeIs(t, g, room-len(stays))
	tickets := append([]int{-1, 0, 1, 2}, greats...)
	waiters := []api.Waiter{{}, who(1, 0), who(1, 7), who(0, 1), who(-1, 0), who(1, -1), who(1, 8)}
	for _, s := range stays {
		w := s.waiter
		tickets = append(tickets, s.ticket, s.ticket+1, -s.ticket)
		waiters = append(waiters, w, who(w.Req, w.Place+1), who(w.Req+1, w.Place), who(w.Place, w.Req), who(-w.Req, w.Place))
	}
	for _, ticket := range tickets {
		ofIs(t, g, ticket, p.of(ticket)...)
	}
	for _, w := range waiters {
		waitsIs(t, g, w, p.waits(w))
	}
}

// five is a register with room for six, of which five are there.
func five(t *testing.T) *wait.Register {
	t.Helper()
	g := made(t, 6)
	for _, s := range fiveStays() {
		add(t, g, s.ticket, s.waiter)
	}
	return g
}

func fiveStays() []stay {
	return []stay{{9, who(3, 0)}, {4, who(3, 7)}, {9, who(1, 0)}, {9, who(3, 1)}, {4, who(2, 0)}}
}

func fiveAsTheyWere(t *testing.T, g *wait.Register) {
	t.Helper()
	is(t, g, 6, fiveStays()...)
}

// P14.1: a register is made, and waiters come.

func TestNew(t *testing.T) {
	for room := -300; room <= 600; room++ {
		want := api.Arg
		if 1 <= room && room <= 64 {
			want = api.OK
		}
		if g, code := wait.New(room); code != want || (g != nil) != (want == api.OK) {
			t.Errorf("New(%d): %v %d, not %d", room, g, code, want)
		}
	}
	for _, room := range greats {
		if g, code := wait.New(room); g != nil || code != api.Arg {
			t.Errorf("New(%d): %v %d", room, g, code)
		}
	}
}

func TestAtFirstNobodyWaits(t *testing.T) {
	for room := 1; room <= 64; room++ {
		g := made(t, room)
		is(t, g, room)
		take(t, g, 1)
		quit(t, g, 1)
		is(t, g, room)
	}
}

func TestAddIsBehindAllOthers(t *testing.T) {
	for range 20 { // whatever the order in which a map is gone through
		g := made(t, 64)
		var stays []stay
		for i := range 64 {
			s := stay{ticket: 1 + i%3, waiter: who(1+i*37%64/8, i*37%8)}
			add(t, g, s.ticket, s.waiter)
			stays = append(stays, s)
		}
		is(t, g, 64, stays...)
	}
}

func TestAddTellsTheOrderAtEachStep(t *testing.T) {
	g := made(t, 8)
	var waiters []api.Waiter
	for _, w := range []api.Waiter{who(5, 3), who(2, 7), who(9, 0), who(5, 1), who(1, 6), who(2, 0), who(math.MaxInt, 2), who(5, 2)} {
		add(t, g, 7, w)
		waiters = append(waiters, w)
		ofIs(t, g, 7, waiters...)
		freeIs(t, g, 8-len(waiters))
	}
}

func TestAddForEachTicket(t *testing.T) {
	for _, ticket := range []int{1, 2, 127, 128, 129, 1 << 20, 1<<32 - 1, 1 << 32, 1<<32 + 1, math.MaxInt} {
		g := made(t, 2)
		add(t, g, ticket, who(1, 0))
		is(t, g, 2, stay{ticket, who(1, 0)})
		take(t, g, ticket, who(1, 0))
	}
	g := five(t)
	for _, ticket := range []int{0, -1, -2, -4, -9, -1 << 32, -1<<32 + 4, math.MinInt, math.MinInt + 9} {
		refused(t, g, ticket, who(1, 1), api.Arg)
		fiveAsTheyWere(t, g)
	}
}

func TestAddOfEachWaiter(t *testing.T) {
	numbers := slices.Concat(greats, []int{1<<32 + 7, -1<<32 + 7, math.MinInt + 8})
	for v := -20; v <= 40; v++ {
		numbers = append(numbers, v)
	}
	for _, v := range numbers {
		for _, c := range []struct {
			w   api.Waiter
			may bool
		}{
			{who(v, 0), v >= 1}, {who(v, 7), v >= 1}, {who(v, 8), false}, {who(v, -1), false},
			{who(1, v), 0 <= v && v <= 7}, {who(math.MaxInt, v), 0 <= v && v <= 7}, {who(0, v), false}, {who(-1, v), false},
		} {
			g := made(t, 2)
			if c.may {
				add(t, g, 5, c.w)
				is(t, g, 2, stay{5, c.w})
			} else {
				refused(t, g, 5, c.w, api.Arg)
				waitsIs(t, g, c.w, false)
				is(t, g, 2)
			}
		}
	}
}

func TestAddOfWhoWaits(t *testing.T) {
	g := five(t)
	for _, s := range fiveStays() {
		for _, ticket := range []int{s.ticket, 4, 9, 1, math.MaxInt} { // for its own ticket, and for another one
			refused(t, g, ticket, s.waiter, api.Exists)
		}
	}
	fiveAsTheyWere(t, g)
}

func TestAddWithoutRoom(t *testing.T) {
	for room := 1; room <= 64; room++ {
		g := made(t, room)
		var stays []stay
		for i := range room {
			freeIs(t, g, room-i)
			s := stay{ticket: 1 + i%5, waiter: who(1+i/8, i%8)}
			add(t, g, s.ticket, s.waiter)
			stays = append(stays, s)
		}
		for _, ticket := range []int{1, 2, 6} {
			refused(t, g, ticket, who(100, 0), api.Full)
		}
		is(t, g, room, stays...)
	}
}

func TestAddIsRefusedByTheCodeThatIsNamedFirst(t *testing.T) {
	g := five(t)
	add(t, g, 1, who(7, 7))
	for _, c := range []struct {
		ticket int
		w      api.Waiter
		want   api.Code
	}{
		{9, who(3, 2), api.Full}, {1, who(8, 0), api.Full}, {5, who(math.MaxInt, 7), api.Full},
		{9, who(3, 0), api.Exists}, {4, who(3, 0), api.Exists}, {5, who(7, 7), api.Exists},
		{0, who(3, 0), api.Arg}, {-1, who(7, 7), api.Arg}, {0, who(8, 0), api.Arg},
		{9, who(3, 8), api.Arg}, {9, who(0, 0), api.Arg}, {0, who(0, 8), api.Arg},
	} {
		refused(t, g, c.ticket, c.w, c.want)
		is(t, g, 6, append(fiveStays(), stay{1, who(7, 7)})...)
	}
}

func TestRegistersAreApart(t *testing.T) {
	g, other := made(t, 2), made(t, 3)
	add(t, g, 5, who(1, 0))
	is(t, other, 3)
	add(t, other, 6, who(1, 0))
	take(t, g, 5, who(1, 0))
	is(t, other, 3, stay{6, who(1, 0)})
	is(t, g, 2)
}

// P14.2: who waits, and who doesn't any more.

func TestTake(t *testing.T) {
	g := five(t)
	take(t, g, 9, who(3, 0), who(1, 0), who(3, 1))
	is(t, g, 6, stay{4, who(3, 7)}, stay{4, who(2, 0)})
	take(t, g, 9)
	take(t, g, 4, who(3, 7), who(2, 0))
	is(t, g, 6)
	take(t, g, 4)
	quit(t, g, 3)
}

func TestTakeTellsThemAsTheyCame(t *testing.T) {
	for range 20 { // whatever the order in which a map is gone through
		g := made(t, 64)
		var odd, even []api.Waiter
		for i := range 64 {
			w := who(1+i*29%64/8, i*29%8)
			add(t, g, 1+i%2, w)
			if i%2 == 0 {
				odd = append(odd, w)
			} else {
				even = append(even, w)
			}
		}
		take(t, g, 2, even...)
		take(t, g, 1, odd...)
		freeIs(t, g, 64)
	}
}

func TestTakeOfNone(t *testing.T) {
	g := five(t)
	for _, ticket := range append([]int{-9, -4, -1, 0, 1, 2, 3, 5, 8, 10, 1<<32 + 4, -1<<32 + 9}, greats...) {
		take(t, g, ticket)
		ofIs(t, g, ticket)
	}
	fiveAsTheyWere(t, g)
}

func TestQuit(t *testing.T) {
	g := five(t)
	quit(t, g, 3, 4, 9)
	is(t, g, 6, stay{9, who(1, 0)}, stay{4, who(2, 0)})
	quit(t, g, 3)
	quit(t, g, 2, 4)
	quit(t, g, 1, 9)
	is(t, g, 6)
	take(t, g, 9)
}

func TestQuitTellsRisingTicketsEachOnce(t *testing.T) {
	for range 20 { // whatever the order in which a map is gone through
		g := made(t, 64)
		for place, ticket := range []int{80, 3, math.MaxInt, 3, 1, 80, 7, 3} {
			add(t, g, ticket, who(5, place))
			add(t, g, 2, who(6, place))
		}
		quit(t, g, 5, 1, 3, 7, 80, math.MaxInt)
		quit(t, g, 6, 2)
		is(t, g, 64)
	}
}

func TestQuitOfNone(t *testing.T) {
	g := five(t)
	for _, req := range append([]int{-3, -1, 0, 4, 5, 7, 9, 1<<32 + 3, -1<<32 + 3}, greats...) {
		quit(t, g, req)
	}
	fiveAsTheyWere(t, g)
}

func TestWhoWentMayComeAgain(t *testing.T) {
	g := five(t)
	quit(t, g, 3, 4, 9)
	add(t, g, 9, who(3, 0)) // behind who came ahead of that, though it was the first once
	add(t, g, 9, who(3, 7)) // for another ticket
	is(t, g, 6, stay{9, who(1, 0)}, stay{4, who(2, 0)}, stay{9, who(3, 0)}, stay{9, who(3, 7)})
	take(t, g, 9, who(1, 0), who(3, 0), who(3, 7))
	add(t, g, 4, who(3, 0), who(1, 0))
	add(t, g, 9, who(3, 1))
	is(t, g, 6, stay{4, who(2, 0)}, stay{4, who(3, 0)}, stay{4, who(1, 0)}, stay{9, who(3, 1)})
}

func TestWhatIsToldIsMemoryOfItsOwn(t *testing.T) {
	g := five(t)
	for _, told := range [][]api.Waiter{g.Of(9), g.Of(4), g.Of(1)} {
		told = told[:cap(told)]
		for i := range told {
			told[i] = who(77, 7)
		}
	}
	fiveAsTheyWere(t, g)
	taken, tickets := g.Take(9), g.Quit(3)
	for i := range taken[:cap(taken)] {
		taken[:cap(taken)][i] = who(2, 0)
	}
	for i := range tickets[:cap(tickets)] {
		tickets[:cap(tickets)][i] = 4
	}
	is(t, g, 6, stay{4, who(2, 0)})
}

func TestWhatWasToldStays(t *testing.T) {
	g := five(t)
	told := g.Of(9)
	quitted := g.Quit(3)
	taken := g.Take(9)
	add(t, g, 9, who(8, 1), who(8, 2), who(8, 3))
	g.Quit(8)
	if want := []api.Waiter{who(3, 0), who(1, 0), who(3, 1)}; !slices.Equal(told, want) {
		t.Errorf("what was told is %v", told)
	}
	if !slices.Equal(quitted, []int{4, 9}) || !slices.Equal(taken, []api.Waiter{who(1, 0)}) {
		t.Errorf("what was told is %v and %v", quitted, taken)
	}
}

func TestTellingChangesNothing(t *testing.T) {
	g := five(t)
	for range 3 {
		fiveAsTheyWere(t, g)
	}
	add(t, g, 9, who(6, 6))
	is(t, g, 6, append(fiveStays(), stay{9, who(6, 6)})...)
}

// P14.3: what follows.

func TestTheExample(t *testing.T) {
	g := made(t, 4)
	add(t, g, 5, who(1, 0), who(2, 0))
	add(t, g, 6, who(1, 1))
	quit(t, g, 1, 5, 6)
	is(t, g, 4, stay{5, who(2, 0)})
}

// filled is a register of which all room is taken: so many wait for ticket 1, all others for 2, as places of request 1, and of others.
func filled(t *testing.T, room, first int) *wait.Register {
	t.Helper()
	g := made(t, room)
	for i := range room {
		if i < first {
			add(t, g, 1, who(1+i/8, i%8))
		} else {
			add(t, g, 2, who(20+i, 0))
		}
	}
	return g
}

// takes asks for just so much room.
func takes(t *testing.T, g *wait.Register, room int) {
	t.Helper()
	freeIs(t, g, room)
	for i := range room {
		add(t, g, 3, who(100+i, 0))
	}
	refused(t, g, 3, who(99, 0), api.Full)
	freeIs(t, g, 0)
}

func TestWhatIsTakenFreesJustAsMuchRoom(t *testing.T) {
	for room := 1; room <= 64; room++ {
		for first := range room + 1 {
			g := filled(t, room, first)
			if got := len(g.Take(1)); got != first {
				t.Errorf("%d were taken, not %d", got, first)
			}
			takes(t, g, first)
		}
	}
}

func TestWhoQuitsFreesJustAsMuchRoom(t *testing.T) {
	for room := 1; room <= 64; room++ {
		for places := range min(room, 8) + 1 {
			g := filled(t, room, places)
			g.Quit(1)
			takes(t, g, places)
		}
	}
}

func TestQuittingIsNothingToOthers(t *testing.T) {
	d := &draws{state: 14}
	for range 300 {
		g, p := made(t, 64), &plain{room: 64}
		for range 40 {
			ticket, w := 1+d.below(4), who(1+d.below(6), d.below(8))
			if g.Add(ticket, w) == api.OK {
				p.stays = append(p.stays, stay{ticket, w})
			}
		}
		gone := 1 + d.below(6)
		p.stays = slices.DeleteFunc(p.stays, func(s stay) bool { return s.waiter.Req == gone })
		g.Quit(gone)
		is(t, g, 64, p.stays...)
	}
}

// draws is a row of numbers that look as if they came by chance, and are the same ones each time.
type draws struct{ state uint64 }

func (d *draws) below(n int) int {
	d.state = d.state*6364136223846793005 + 1442695040888963407
	return int(d.state >> 33 % uint64(n))
}

// together lets both be used, and holds them against each other. It counts how those who came were met.
func together(t *testing.T, d *draws, room, tickets, reqs int, met map[api.Code]int) {
	t.Helper()
	g, p := made(t, room), &plain{room: room}
	for step := range 300 {
		ticket, req := d.below(tickets+1), d.below(reqs+1)
		switch d.below(12) {
		case 0:
			take(t, g, ticket, p.take(ticket)...)
		case 1:
			quit(t, g, req, p.quit(req)...)
		default:
			w := who(req, d.below(10)-1)
			want := p.add(ticket, w)
			refused(t, g, ticket, w, want)
			met[want]++
		}
		is(t, g, room, p.stays...)
		if t.Failed() {
			t.Fatalf("room for %d, step %d", room, step)
		}
	}
}

func TestBesideAPlainRegister(t *testing.T) {
	d := &draws{state: 1}
	met := map[api.Code]int{}
	for _, room := range []int{1, 2, 5, 16, 64} {
		for _, tickets := range []int{1, 3, 20} {
			for _, reqs := range []int{1, 3, 16} {
				together(t, d, room, tickets, reqs, met)
			}
		}
	}
	for _, code := range []api.Code{api.OK, api.Arg, api.Exists, api.Full} {
		if met[code] < 100 {
			t.Errorf("%d came to %d", met[code], code)
		}
	}
}
