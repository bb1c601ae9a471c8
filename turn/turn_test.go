package turn_test

import (
	"math"
	"slices"
	"testing"

	"forerunner/api"
	"forerunner/turn"
)

// greats are numbers that are no bound's neighbours, but may come to one by a sum, a difference, or by their lowest bits.
var greats = []int{math.MinInt, math.MinInt + 1, -1 << 32, -1<<32 + 1, 1 << 32, 1<<32 + 1, math.MaxInt - 1, math.MaxInt}

func made(t *testing.T, demand, ahead int) *turn.Turns {
	t.Helper()
	x, code := turn.New(demand, ahead)
	if x == nil || code != api.OK {
		t.Fatalf("New(%d, %d): %v %d", demand, ahead, x, code)
	}
	return x
}

// does lets calls of one name be made of tickets, one behind the other, which come to a code.
func does(t *testing.T, name string, call func(int) api.Code, want api.Code, tickets ...int) {
	t.Helper()
	for _, ticket := range tickets {
		if code := call(ticket); code != want {
			t.Errorf("%s(%d): %d, not %d", name, ticket, code, want)
		}
	}
}

func put(t *testing.T, x *turn.Turns, ahead bool, want api.Code, tickets ...int) {
	t.Helper()
	name := "Put a demand"
	if ahead {
		name = "Put ahead"
	}
	does(t, name, func(ticket int) api.Code { return x.Put(ticket, ahead) }, want, tickets...)
}

func demands(t *testing.T, x *turn.Turns, want api.Code, tickets ...int) {
	t.Helper()
	put(t, x, false, want, tickets...)
}

func aheads(t *testing.T, x *turn.Turns, want api.Code, tickets ...int) {
	t.Helper()
	put(t, x, true, want, tickets...)
}

func start(t *testing.T, x *turn.Turns, want api.Code, tickets ...int) {
	t.Helper()
	does(t, "Start", x.Start, want, tickets...)
}

func again(t *testing.T, x *turn.Turns, want api.Code, tickets ...int) {
	t.Helper()
	does(t, "Again", x.Again, want, tickets...)
}

func promote(t *testing.T, x *turn.Turns, want api.Code, tickets ...int) {
	t.Helper()
	does(t, "Promote", x.Promote, want, tickets...)
}

func end(t *testing.T, x *turn.Turns, want api.Code, tickets ...int) {
	t.Helper()
	does(t, "End", x.End, want, tickets...)
}

func waitingIs(t *testing.T, x *turn.Turns, want ...int) {
	t.Helper()
	if got := x.Waiting(); !slices.Equal(got, want) {
		t.Errorf("Waiting: %v, not %v", got, want)
	}
}

func freeIs(t *testing.T, x *turn.Turns, demand, ahead int) {
	t.Helper()
	if d, a := x.Free(); d != demand || a != ahead {
		t.Errorf("Free: %d %d, not %d %d", d, a, demand, ahead)
	}
}

func stateIs(t *testing.T, x *turn.Turns, ticket int, ahead, waits, ok bool) {
	t.Helper()
	if a, w, there := x.State(ticket); a != ahead || w != waits || there != ok {
		t.Errorf("State(%d): %v %v %v, not %v %v %v", ticket, a, w, there, ahead, waits, ok)
	}
}

// nowhere asks for tickets that have no place.
func nowhere(t *testing.T, x *turn.Turns, tickets ...int) {
	t.Helper()
	for _, ticket := range tickets {
		stateIs(t, x, ticket, false, false, false)
	}
	start(t, x, api.NotFound, tickets...)
	again(t, x, api.NotFound, tickets...)
	promote(t, x, api.NotFound, tickets...)
	end(t, x, api.NotFound, tickets...)
}

// place is a ticket that has a place in a row, and whether it waits.
type place struct {
	ticket int
	waits  bool
}

// all asks for all that is told: these tickets are in the rows, in the order of their turns, and so many places are free.
func all(t *testing.T, x *turn.Turns, rows [2][]place, demand, ahead int) {
	t.Helper()
	var waiting []int
	for row, places := range rows {
		for _, p := range places {
			stateIs(t, x, p.ticket, row == 1, p.waits, true)
			if p.waits {
				waiting = append(waiting, p.ticket)
			}
		}
	}
	waitingIs(t, x, waiting...)
	freeIs(t, x, demand, ahead)
}

// six are turns of 4 demands and 3 ahead, and the tickets 8, 3 and 5 as demands, 9, 2 and 7 ahead; 3 and 2 don't wait.
func six(t *testing.T) *turn.Turns {
	t.Helper()
	x := made(t, 4, 3)
	aheads(t, x, api.OK, 9)
	demands(t, x, api.OK, 8)
	aheads(t, x, api.OK, 2)
	demands(t, x, api.OK, 3, 5)
	aheads(t, x, api.OK, 7)
	start(t, x, api.OK, 3, 2)
	return x
}

var (
	sixDemands = []place{{8, true}, {3, false}, {5, true}}
	sixAheads  = []place{{9, true}, {2, false}, {7, true}}
)

func sixAsTheyWere(t *testing.T, x *turn.Turns) {
	t.Helper()
	all(t, x, [2][]place{sixDemands, sixAheads}, 1, 0)
}

// P12.1: turns are made, and tickets put.

func TestNew(t *testing.T) {
	for v := -300; v <= 600; v++ {
		for _, other := range []int{1, 30, 64} {
			for _, c := range []struct {
				demand, ahead int
				may           bool
			}{
				{v, other, 1 <= v && v <= 64},
				{v, 0, 1 <= v && v <= 64},
				{other, v, 0 <= v && v <= 64},
			} {
				want := api.Arg
				if c.may {
					want = api.OK
				}
				if x, code := turn.New(c.demand, c.ahead); code != want || (x != nil) != c.may {
					t.Errorf("New(%d, %d): %v %d, not %d", c.demand, c.ahead, x, code, want)
				}
			}
		}
	}
}

func TestNewOfTheGreatestAndBeyond(t *testing.T) {
	made(t, 64, 64)
	made(t, 1, 0)
	neither := append([]int{-64, -1, 65, 128}, greats...)
	for _, no := range neither {
		for _, other := range append([]int{1, 64, 0, 65}, neither...) {
			for _, args := range [][2]int{{no, other}, {other, no}} {
				if x, code := turn.New(args[0], args[1]); x != nil || code != api.Arg {
					t.Errorf("New(%d, %d): %v %d", args[0], args[1], x, code)
				}
			}
		}
	}
}

func TestAtFirstThereIsNoTicket(t *testing.T) {
	for _, counts := range [][2]int{{1, 0}, {1, 1}, {64, 0}, {64, 64}, {5, 9}} {
		x := made(t, counts[0], counts[1])
		all(t, x, [2][]place{}, counts[0], counts[1])
		nowhere(t, x, append([]int{-1, 0, 1, 2, 64, 65}, greats...)...)
		all(t, x, [2][]place{}, counts[0], counts[1])
	}
}

func TestPutIsLastAndWaits(t *testing.T) {
	x := made(t, 64, 64)
	tickets := [][2]int{{5, 6}, {3, 12}, {8, math.MaxInt - 1}, {1, 4}, {1 << 20, 1<<32 + 5}, {1<<32 + 1, 10}, {math.MaxInt, 9}, {7, 2}}
	var rows [2][]place
	for _, pair := range tickets {
		demands(t, x, api.OK, pair[0])
		rows[0] = append(rows[0], place{pair[0], true})
		all(t, x, rows, 64-len(rows[0]), 64-len(rows[1]))
		aheads(t, x, api.OK, pair[1])
		rows[1] = append(rows[1], place{pair[1], true})
		all(t, x, rows, 64-len(rows[0]), 64-len(rows[1]))
	}
}

func TestPutOfATicketBelowOne(t *testing.T) {
	x := six(t)
	below := []int{0, -1, -2, -3, -8, -64, -1 << 32, -1<<32 + 3, math.MinInt, math.MinInt + 1}
	demands(t, x, api.Arg, below...)
	aheads(t, x, api.Arg, below...)
	nowhere(t, x, below...)
	sixAsTheyWere(t, x)
}

func TestPutOfWhatHasAPlace(t *testing.T) {
	x := six(t)
	for _, ticket := range []int{8, 3, 5, 9, 2, 7} { // waiting or not, of this row and of the other one
		demands(t, x, api.Exists, ticket)
		aheads(t, x, api.Exists, ticket)
	}
	sixAsTheyWere(t, x)
}

func TestPutWithoutPlace(t *testing.T) {
	for count := 1; count <= 64; count++ {
		x := made(t, count, 64-count)
		for i := 1; i <= count; i++ {
			freeIs(t, x, count-i+1, 64-count)
			demands(t, x, api.OK, i)
		}
		for i := 1; i <= 64-count; i++ {
			demands(t, x, api.Full, 1000)
			freeIs(t, x, 0, 64-count-i+1)
			aheads(t, x, api.OK, 100+i)
		}
		demands(t, x, api.Full, 1000)
		aheads(t, x, api.Full, 1000)
		nowhere(t, x, 1000)
		freeIs(t, x, 0, 0)
	}
}

func TestWhatIsDoneHasAPlaceToo(t *testing.T) {
	x := made(t, 2, 1)
	demands(t, x, api.OK, 1, 2)
	aheads(t, x, api.OK, 3)
	start(t, x, api.OK, 1, 2, 3)
	demands(t, x, api.Full, 4)
	aheads(t, x, api.Full, 4)
	all(t, x, [2][]place{{{1, false}, {2, false}}, {{3, false}}}, 0, 0)
}

func TestARowsPlacesAreItsOwn(t *testing.T) {
	x := made(t, 1, 0)
	aheads(t, x, api.Full, 1, 2)
	demands(t, x, api.OK, 1)
	y := made(t, 1, 3)
	demands(t, y, api.OK, 1)
	demands(t, y, api.Full, 2)
	aheads(t, y, api.OK, 2, 3, 4)
	end(t, y, api.OK, 2)
	demands(t, y, api.Full, 5)
	end(t, y, api.OK, 1)
	aheads(t, y, api.OK, 5)
	aheads(t, y, api.Full, 6)
	demands(t, y, api.OK, 6)
	all(t, y, [2][]place{{{6, true}}, {{3, true}, {4, true}, {5, true}}}, 0, 0)
}

func TestPutIsRefusedByTheCodeThatIsNamedFirst(t *testing.T) {
	x := six(t)
	demands(t, x, api.OK, 6) // no place is free now
	for _, c := range []struct {
		ticket int
		want   api.Code
	}{
		{0, api.Arg}, {-6, api.Arg}, {math.MinInt, api.Arg},
		{6, api.Exists}, {3, api.Exists}, {9, api.Exists}, {2, api.Exists},
		{1, api.Full}, {4, api.Full}, {math.MaxInt, api.Full},
	} {
		demands(t, x, c.want, c.ticket)
		aheads(t, x, c.want, c.ticket)
		all(t, x, [2][]place{append(slices.Clone(sixDemands), place{6, true}), sixAheads}, 0, 0)
	}
}

func TestTurnsAreApart(t *testing.T) {
	x, y := made(t, 2, 1), made(t, 2, 1)
	demands(t, x, api.OK, 5)
	all(t, y, [2][]place{}, 2, 1)
	aheads(t, y, api.OK, 5)
	start(t, y, api.OK, 5)
	all(t, x, [2][]place{{{5, true}}}, 1, 1)
	end(t, x, api.OK, 5)
	all(t, y, [2][]place{nil, {{5, false}}}, 2, 0)
}

// P12.2: tickets are begun, wait again, and end.

func TestStartAndAgainOfEachPlace(t *testing.T) {
	tickets := []int{6, 2, 8, 4, 9, 1}
	for row := range 2 {
		for at, ticket := range tickets {
			x := made(t, 6, 6)
			var rows [2][]place
			for _, one := range tickets {
				put(t, x, row == 1, api.OK, one)
				rows[row] = append(rows[row], place{one, true})
			}
			free := [2]int{6, 6}
			free[row] = 0
			again(t, x, api.Busy, ticket)
			all(t, x, rows, free[0], free[1])
			start(t, x, api.OK, ticket)
			rows[row][at].waits = false
			all(t, x, rows, free[0], free[1])
			start(t, x, api.Busy, ticket)
			all(t, x, rows, free[0], free[1])
			again(t, x, api.OK, ticket) // it keeps its turn
			rows[row][at].waits = true
			all(t, x, rows, free[0], free[1])
			again(t, x, api.Busy, ticket)
			all(t, x, rows, free[0], free[1])
		}
	}
}

func TestEndOfEachPlace(t *testing.T) {
	for _, done := range []bool{false, true} {
		for at, ticket := range []int{8, 3, 5, 9, 2, 7} {
			x := made(t, 3, 3)
			demands(t, x, api.OK, 8, 3, 5)
			aheads(t, x, api.OK, 9, 2, 7)
			rows := [2][]place{{{8, true}, {3, true}, {5, true}}, {{9, true}, {2, true}, {7, true}}}
			if done {
				start(t, x, api.OK, ticket)
			}
			end(t, x, api.OK, ticket)
			row, free := at/3, [2]int{}
			rows[row] = slices.Delete(rows[row], at%3, at%3+1)
			free[row]++
			all(t, x, rows, free[0], free[1])
			nowhere(t, x, ticket)
			put(t, x, row == 1, api.OK, ticket)
			rows[row] = append(rows[row], place{ticket, true}) // it waits, with the last turn, whatever was
			all(t, x, rows, 0, 0)
		}
	}
}

func TestOfNone(t *testing.T) {
	x := six(t)
	nowhere(t, x, append([]int{-9, -3, -1, 0, 1, 4, 6, 10, 1<<32 + 3, -1<<32 + 8}, greats...)...)
	sixAsTheyWere(t, x)
	end(t, x, api.OK, 3, 7)
	nowhere(t, x, 3, 7, 3)
	all(t, x, [2][]place{{{8, true}, {5, true}}, {{9, true}, {2, false}}}, 2, 1)
}

func TestEndOfAll(t *testing.T) {
	x := six(t)
	end(t, x, api.OK, 2, 8, 7, 5, 3, 9)
	all(t, x, [2][]place{}, 4, 3)
	nowhere(t, x, 2, 8, 7, 5, 3, 9)
	aheads(t, x, api.OK, 8, 5)
	demands(t, x, api.OK, 9)
	all(t, x, [2][]place{{{9, true}}, {{8, true}, {5, true}}}, 3, 1)
}

// P12.3: tickets are promoted.

func TestPromoteIsTheLastDemand(t *testing.T) {
	for at, ticket := range []int{9, 2, 7} {
		x := six(t)
		promote(t, x, api.OK, ticket)
		rows := [2][]place{append(slices.Clone(sixDemands), sixAheads[at]), slices.Delete(slices.Clone(sixAheads), at, at+1)}
		all(t, x, rows, 0, 1) // it waits just if it did
		promote(t, x, api.Busy, ticket)
		all(t, x, rows, 0, 1)
		aheads(t, x, api.OK, 30) // its place ahead is free
		rows[1] = append(rows[1], place{30, true})
		all(t, x, rows, 0, 0)
	}
}

func TestWhatWasPromotedGoesOn(t *testing.T) {
	x := six(t)
	promote(t, x, api.OK, 2)
	again(t, x, api.OK, 2)
	waitingIs(t, x, 8, 5, 2, 9, 7)
	start(t, x, api.OK, 2, 8)
	waitingIs(t, x, 5, 9, 7)
	end(t, x, api.OK, 3)
	demands(t, x, api.OK, 3)
	again(t, x, api.OK, 2)
	waitingIs(t, x, 5, 2, 3, 9, 7)
	end(t, x, api.OK, 2)
	all(t, x, [2][]place{{{8, false}, {5, true}, {3, true}}, {{9, true}, {7, true}}}, 1, 1)
}

func TestPromoteTakesTheTurnOfThen(t *testing.T) {
	x := made(t, 5, 3)
	aheads(t, x, api.OK, 1, 2, 3)
	demands(t, x, api.OK, 4)
	promote(t, x, api.OK, 3)
	demands(t, x, api.OK, 5)
	promote(t, x, api.OK, 1)
	waitingIs(t, x, 4, 3, 5, 1, 2)
	promote(t, x, api.OK, 2)
	all(t, x, [2][]place{{{4, true}, {3, true}, {5, true}, {1, true}, {2, true}}}, 0, 3)
}

func TestPromoteOfADemand(t *testing.T) {
	x := six(t)
	promote(t, x, api.Busy, 8, 3, 5)
	sixAsTheyWere(t, x)
}

func TestPromoteWithoutPlace(t *testing.T) {
	for count := 1; count <= 64; count++ {
		x := made(t, count, 2)
		aheads(t, x, api.OK, 200, 100)
		for i := 1; i <= count; i++ {
			demands(t, x, api.OK, i)
		}
		promote(t, x, api.Full, 200, 100)
		stateIs(t, x, 200, true, true, true)
		freeIs(t, x, 0, 0)
		waiting := x.Waiting()
		if !slices.Equal(waiting[count:], []int{200, 100}) { // they kept their turns
			t.Errorf("Waiting: %v", waiting)
		}
		end(t, x, api.OK, 1)
		promote(t, x, api.OK, 100)
		promote(t, x, api.Full, 200)
		freeIs(t, x, 0, 1)
	}
}

func TestPromoteIsRefusedByTheCodeThatIsNamedFirst(t *testing.T) {
	x := six(t)
	demands(t, x, api.OK, 6) // no place is free now
	nowhere(t, x, -1, 0, 1, 4)
	promote(t, x, api.Busy, 8, 3, 5, 6)
	promote(t, x, api.Full, 9, 2, 7)
	all(t, x, [2][]place{append(slices.Clone(sixDemands), place{6, true}), sixAheads}, 0, 0)
}

// P12.4: what is told.

func TestTheExample(t *testing.T) {
	x := made(t, 4, 4)
	aheads(t, x, api.OK, 1)
	demands(t, x, api.OK, 2)
	aheads(t, x, api.OK, 3)
	waitingIs(t, x, 2, 1, 3)
	promote(t, x, api.OK, 3)
	waitingIs(t, x, 2, 3, 1)
}

func TestDemandsGoFirst(t *testing.T) {
	x := made(t, 64, 64)
	var first, then []int
	for i := range 64 {
		aheads(t, x, api.OK, 1000-i) // ahead of each demand by its turn
		demands(t, x, api.OK, 500-7*i+4000*(i%2))
		then = append(then, 1000-i)
		first = append(first, 500-7*i+4000*(i%2))
		waitingIs(t, x, slices.Concat(first, then)...)
		freeIs(t, x, 63-i, 63-i)
	}
	start(t, x, api.OK, first...)
	waitingIs(t, x, then...)
	start(t, x, api.OK, then...)
	waitingIs(t, x)
	slices.Reverse(first)
	again(t, x, api.OK, first...)
	slices.Reverse(first)
	waitingIs(t, x, first...)
}

func TestWhatIsToldIsMemoryOfItsOwn(t *testing.T) {
	x := six(t)
	waiting := x.Waiting()
	waiting = waiting[:cap(waiting)]
	for i := range waiting {
		waiting[i] = 77
	}
	sixAsTheyWere(t, x)
	told := x.Waiting()
	end(t, x, api.OK, 8, 7)
	demands(t, x, api.OK, 40)
	if !slices.Equal(told, []int{8, 5, 9, 7}) {
		t.Errorf("what was told is %v", told)
	}
	waitingIs(t, x, 5, 40, 9)
}

func TestTellingChangesNothing(t *testing.T) {
	x := six(t)
	for range 3 {
		sixAsTheyWere(t, x)
	}
	again(t, x, api.OK, 3, 2)
	waitingIs(t, x, 8, 3, 5, 9, 2, 7)
}

// P12.5: what follows.

func TestTurnsStayWhateverWasBegun(t *testing.T) {
	d := &draws{state: 12}
	x := made(t, 20, 20)
	var rows [2][]int
	for i := range 20 {
		demands(t, x, api.OK, 100-3*i)
		aheads(t, x, api.OK, 201+2*i)
		rows[0], rows[1] = append(rows[0], 100-3*i), append(rows[1], 201+2*i)
	}
	done := map[int]bool{}
	for range 2000 {
		ticket := rows[d.below(2)][d.below(20)]
		if done[ticket] {
			again(t, x, api.OK, ticket)
		} else {
			start(t, x, api.OK, ticket)
		}
		done[ticket] = !done[ticket]
		waits := slices.DeleteFunc(slices.Concat(rows[0], rows[1]), func(ticket int) bool { return done[ticket] })
		waitingIs(t, x, waits...)
		freeIs(t, x, 0, 0)
	}
}

// draws is a row of numbers that look as if they came by chance, and are the same ones each time.
type draws struct{ state uint64 }

func (d *draws) below(n int) int {
	d.state = d.state*6364136223846793005 + 1442695040888963407
	return int(d.state >> 33 % uint64(n))
}

// plain are turns as the chapter's words have them: two rows, demands and what is ahead, in the order in which tickets came into them.
type plain struct {
	most [2]int
	rows [2][]place
}

// at is the row of a ticket, and its place in that; a place below 0, if it has none.
func (p *plain) at(ticket int) (row, at int) {
	for row, places := range p.rows {
		if at := slices.IndexFunc(places, func(one place) bool { return one.ticket == ticket }); at >= 0 {
			return row, at
		}
	}
	return 0, -1
}

func (p *plain) full(row int) bool { return len(p.rows[row]) == p.most[row] }

func (p *plain) put(ticket, row int) api.Code {
	_, at := p.at(ticket)
	switch {
	case ticket < 1:
		return api.Arg
	case at >= 0:
		return api.Exists
	case p.full(row):
		return api.Full
	}
	p.rows[row] = append(p.rows[row], place{ticket, true})
	return api.OK
}

func (p *plain) wait(ticket int, waits bool) api.Code {
	row, at := p.at(ticket)
	switch {
	case at < 0:
		return api.NotFound
	case p.rows[row][at].waits == waits:
		return api.Busy
	}
	p.rows[row][at].waits = waits
	return api.OK
}

func (p *plain) promote(ticket int) api.Code {
	row, at := p.at(ticket)
	switch {
	case at < 0:
		return api.NotFound
	case row == 0:
		return api.Busy
	case p.full(0):
		return api.Full
	}
	p.rows[0] = append(p.rows[0], p.rows[1][at])
	p.rows[1] = slices.Delete(p.rows[1], at, at+1)
	return api.OK
}

func (p *plain) end(ticket int) api.Code {
	row, at := p.at(ticket)
	if at < 0 {
		return api.NotFound
	}
	p.rows[row] = slices.Delete(p.rows[row], at, at+1)
	return api.OK
}

// step is a call that is made of both, by its name, and the codes that both answer.
func step(d *draws, x *turn.Turns, p *plain, ticket int) (name string, got, want api.Code) {
	switch d.below(8) {
	case 0, 1:
		return "Put a demand", x.Put(ticket, false), p.put(ticket, 0)
	case 2, 3:
		return "Put ahead", x.Put(ticket, true), p.put(ticket, 1)
	case 4:
		return "Start", x.Start(ticket), p.wait(ticket, false)
	case 5:
		return "Again", x.Again(ticket), p.wait(ticket, true)
	case 6:
		return "Promote", x.Promote(ticket), p.promote(ticket)
	}
	return "End", x.End(ticket), p.end(ticket)
}

// came is how a call of that name came out.
type came struct {
	name string
	code api.Code
}

// together lets both be used, and holds them against each other. It counts how each call came out.
func together(t *testing.T, d *draws, demand, ahead int, counts map[came]int) {
	t.Helper()
	x, p := made(t, demand, ahead), &plain{most: [2]int{demand, ahead}}
	for i := range 400 {
		ticket := d.below(2*(demand+ahead)+3) - 1
		name, got, want := step(d, x, p, ticket)
		if got != want {
			t.Errorf("%s(%d): %d, not %d", name, ticket, got, want)
		}
		counts[came{name, want}]++
		all(t, x, p.rows, demand-len(p.rows[0]), ahead-len(p.rows[1]))
		if _, at := p.at(ticket); at < 0 {
			stateIs(t, x, ticket, false, false, false)
		}
		if t.Failed() {
			t.Fatalf("%d demands, %d ahead, step %d", demand, ahead, i)
		}
	}
}

func TestBesidePlainTurns(t *testing.T) {
	d := &draws{state: 1}
	counts := map[came]int{}
	for _, demand := range []int{1, 2, 3, 8, 20} {
		for _, ahead := range []int{0, 1, 2, 8, 20} {
			for range 8 {
				together(t, d, demand, ahead, counts)
			}
		}
	}
	together(t, d, 64, 64, counts)
	for name, codes := range map[string][]api.Code{
		"Put a demand": {api.OK, api.Arg, api.Exists, api.Full},
		"Put ahead":    {api.OK, api.Arg, api.Exists, api.Full},
		"Start":        {api.OK, api.NotFound, api.Busy},
		"Again":        {api.OK, api.NotFound, api.Busy},
		"Promote":      {api.OK, api.NotFound, api.Busy, api.Full},
		"End":          {api.OK, api.NotFound},
	} {
		for _, code := range codes {
			if n := counts[came{name, code}]; n < 100 {
				t.Errorf("%s came to %d %d times", name, code, n)
			}
		}
	}
}
