package lane_test

import (
	"math"
	"slices"
	"testing"

	"forerunner/api"
	"forerunner/lane"
)

// greats are numbers that are no bound's neighbours, but may come to one by a sum, a difference, or by their lowest bits.
var greats = []int{math.MinInt, math.MinInt + 1, -1 << 32, -1<<32 + 1, 1 << 32, 1<<32 + 1, math.MaxInt - 1, math.MaxInt}

func made(t *testing.T, blocks, room int) *lane.Lanes {
	t.Helper()
	l, code := lane.New(blocks, room)
	if l == nil || code != api.OK {
		t.Fatalf("New(%d, %d): %v %d", blocks, room, l, code)
	}
	return l
}

// push lets tickets stand last in a block's lane, one behind the other.
func push(t *testing.T, l *lane.Lanes, block int, tickets ...int) {
	t.Helper()
	for _, ticket := range tickets {
		if code := l.Push(block, ticket); code != api.OK {
			t.Errorf("Push(%d, %d): %d", block, ticket, code)
		}
	}
}

func refused(t *testing.T, l *lane.Lanes, block, ticket int, want api.Code) {
	t.Helper()
	if code := l.Push(block, ticket); code != want {
		t.Errorf("Push(%d, %d): %d, not %d", block, ticket, code, want)
	}
}

// pull lets tickets go that stand in the block's lane.
func pull(t *testing.T, l *lane.Lanes, block int, tickets ...int) {
	t.Helper()
	for _, ticket := range tickets {
		if got, code := l.Pull(ticket); got != block || code != api.OK {
			t.Errorf("Pull(%d): %d %d, not %d", ticket, got, code, block)
		}
	}
}

// nowhere asks for tickets that stand in no lane.
func nowhere(t *testing.T, l *lane.Lanes, tickets ...int) {
	t.Helper()
	for _, ticket := range tickets {
		if block, code := l.Pull(ticket); block != 0 || code != api.NotFound {
			t.Errorf("Pull(%d): %d %d, not 0 and NotFound", ticket, block, code)
		}
		if block, stands := l.Block(ticket); block != 0 || stands {
			t.Errorf("Block(%d): %d %v, not 0 and false", ticket, block, stands)
		}
	}
}

// ends are the tickets that should stand first and last in a lane; 0 and false twice of an empty one.
func ends(tickets []int) (head, last int, stands bool) {
	if len(tickets) == 0 {
		return 0, 0, false
	}
	return tickets[0], tickets[len(tickets)-1], true
}

// laneIs asks for all that is told of one lane.
func laneIs(t *testing.T, l *lane.Lanes, block int, want ...int) {
	t.Helper()
	if got := l.Lane(block); !slices.Equal(got, want) {
		t.Errorf("Lane(%d): %v, not %v", block, got, want)
	}
	head, last, stands := ends(want)
	if got, ok := l.Head(block); got != head || ok != stands {
		t.Errorf("Head(%d): %d %v, not %d %v", block, got, ok, head, stands)
	}
	if got, ok := l.Last(block); got != last || ok != stands {
		t.Errorf("Last(%d): %d %v, not %d %v", block, got, ok, last, stands)
	}
}

func headsAre(t *testing.T, l *lane.Lanes, want ...int) {
	t.Helper()
	if got := l.Heads(); !slices.Equal(got, want) {
		t.Errorf("Heads: %v, not %v", got, want)
	}
}

func lenIs(t *testing.T, l *lane.Lanes, want int) {
	t.Helper()
	if got := l.Len(); got != want {
		t.Errorf("Len: %d, not %d", got, want)
	}
}

// all asks for all that is told: lanes, by their blocks, have these tickets.
func all(t *testing.T, l *lane.Lanes, lanes ...[]int) {
	t.Helper()
	var heads []int
	many := 0
	for block, tickets := range lanes {
		laneIs(t, l, block, tickets...)
		for _, ticket := range tickets {
			if got, stands := l.Block(ticket); got != block || !stands {
				t.Errorf("Block(%d): %d %v, not %d", ticket, got, stands, block)
			}
		}
		if len(tickets) > 0 {
			heads = append(heads, tickets[0])
		}
		many += len(tickets)
	}
	for _, block := range append([]int{-2, -1, len(lanes), len(lanes) + 1, 256}, greats...) {
		laneIs(t, l, block)
	}
	headsAre(t, l, heads...)
	lenIs(t, l, many)
}

// three are three lanes with room for six tickets, of which five are there: 4, 1 and 9; none; 7 and 2.
func three(t *testing.T) *lane.Lanes {
	t.Helper()
	l := made(t, 3, 6)
	push(t, l, 0, 4)
	push(t, l, 2, 7)
	push(t, l, 0, 1)
	push(t, l, 2, 2)
	push(t, l, 0, 9)
	return l
}

func threeAsTheyWere(t *testing.T, l *lane.Lanes) {
	t.Helper()
	all(t, l, []int{4, 1, 9}, nil, []int{7, 2})
}

// P11.1: lanes are made, and tickets pushed.

func TestNew(t *testing.T) {
	for v := -300; v <= 600; v++ {
		for _, other := range []int{1, 100, 128} {
			for _, c := range []struct {
				blocks, room int
				may          bool
			}{
				{v, other, 1 <= v && v <= 256},
				{other, v, 1 <= v && v <= 128},
			} {
				want := api.Arg
				if c.may {
					want = api.OK
				}
				if l, code := lane.New(c.blocks, c.room); code != want || (l != nil) != c.may {
					t.Errorf("New(%d, %d): %v %d, not %d", c.blocks, c.room, l, code, want)
				}
			}
		}
	}
}

func TestNewOfTheGreatestAndBeyond(t *testing.T) {
	made(t, 256, 128)
	neither := append([]int{-1, 0, 257}, greats...)
	for _, no := range neither {
		for _, other := range append([]int{1, 128, 129, 256}, neither...) {
			for _, args := range [][2]int{{no, other}, {other, no}} {
				if l, code := lane.New(args[0], args[1]); l != nil || code != api.Arg {
					t.Errorf("New(%d, %d): %v %d", args[0], args[1], l, code)
				}
			}
		}
	}
}

func TestAtFirstThereIsNothing(t *testing.T) {
	for _, blocks := range []int{1, 2, 255, 256} {
		l := made(t, blocks, 128)
		all(t, l, make([][]int, blocks)...)
		nowhere(t, l, 1, 2, 128, 129)
	}
}

func TestEachBlockHasALane(t *testing.T) {
	for _, blocks := range []int{1, 2, 100, 255, 256} {
		for block := -2; block <= 300; block++ {
			l := made(t, blocks, 1)
			if 0 <= block && block < blocks {
				push(t, l, block, 5)
				laneIs(t, l, block, 5)
			} else {
				refused(t, l, block, 5, api.Arg)
				lenIs(t, l, 0)
			}
		}
	}
}

func TestPushIsLast(t *testing.T) {
	l := made(t, 2, 128)
	tickets := []int{5, 3, 8, 1, 1 << 20, 2, 1<<32 + 1, math.MaxInt, 7, 1 << 40}
	for i, ticket := range tickets {
		push(t, l, 1, ticket)
		all(t, l, nil, tickets[:i+1])
	}
}

func TestPushOfATicketBelowOne(t *testing.T) {
	l := three(t)
	for _, ticket := range []int{0, -1, -2, -4, -128, -1 << 32, -1<<32 + 4, math.MinInt, math.MinInt + 1} {
		for block := range 3 {
			refused(t, l, block, ticket, api.Arg)
		}
		nowhere(t, l, ticket)
	}
	threeAsTheyWere(t, l)
}

func TestPushWhereThereIsNoBlock(t *testing.T) {
	l := three(t)
	for _, block := range append([]int{-1, -3, 3, 4, 255, 256}, greats...) {
		refused(t, l, block, 5, api.Arg)
	}
	nowhere(t, l, 5)
	threeAsTheyWere(t, l)
	push(t, l, 1, 5) // there was room all the time
}

func TestPushOfWhatStandsThere(t *testing.T) {
	l := three(t)
	for _, ticket := range []int{4, 1, 9, 7, 2} {
		for block := range 3 { // in its own lane, and in another one
			refused(t, l, block, ticket, api.Exists)
		}
	}
	threeAsTheyWere(t, l)
}

func TestPushWithoutRoom(t *testing.T) {
	for room := 1; room <= 128; room++ {
		for _, blocks := range []int{1, 2, 256} {
			l := made(t, blocks, room)
			for i := range room {
				lenIs(t, l, i)
				push(t, l, i%blocks, i+1)
			}
			for block := range blocks {
				refused(t, l, block, room+1, api.Full)
			}
			nowhere(t, l, room+1)
			lenIs(t, l, room)
			pull(t, l, 0, 1)
			push(t, l, blocks-1, room+1)
			refused(t, l, 0, 1, api.Full)
		}
	}
}

func TestPushIsRefusedByTheCodeThatIsNamedFirst(t *testing.T) {
	l := three(t)
	push(t, l, 1, 6)
	for _, c := range []struct {
		block, ticket int
		want          api.Code
	}{
		{0, 5, api.Full}, {1, 3, api.Full}, {2, math.MaxInt, api.Full},
		{0, 4, api.Exists}, {1, 4, api.Exists}, {2, 6, api.Exists}, {0, 2, api.Exists},
		{3, 4, api.Arg}, {-1, 6, api.Arg}, {3, 5, api.Arg}, {-1, 5, api.Arg},
		{0, 0, api.Arg}, {1, -4, api.Arg}, {3, 0, api.Arg}, {-1, -1, api.Arg},
	} {
		refused(t, l, c.block, c.ticket, c.want)
		all(t, l, []int{4, 1, 9}, []int{6}, []int{7, 2})
	}
}

func TestLanesAreApart(t *testing.T) {
	l, other := made(t, 2, 1), made(t, 2, 1)
	push(t, l, 0, 5)
	all(t, other, nil, nil)
	push(t, other, 1, 5)
	pull(t, l, 0, 5)
	all(t, other, nil, []int{5})
	all(t, l, nil, nil)
}

// P11.2: tickets are pulled, and found.

func TestPullOfEachPlace(t *testing.T) {
	tickets := []int{6, 2, 8, 4, 9, 1}
	for place, ticket := range tickets {
		l := made(t, 4, 8)
		push(t, l, 2, tickets...)
		push(t, l, 3, 20, 21)
		pull(t, l, 2, ticket)
		rest := slices.Concat(tickets[:place], tickets[place+1:])
		all(t, l, nil, nil, rest, []int{20, 21})
		nowhere(t, l, ticket)
		push(t, l, 2, ticket) // it stands last, wherever it stood
		all(t, l, nil, nil, append(rest, ticket), []int{20, 21})
	}
}

func TestPullOfAll(t *testing.T) {
	l := three(t)
	pull(t, l, 0, 1)
	all(t, l, []int{4, 9}, nil, []int{7, 2})
	pull(t, l, 2, 7)
	all(t, l, []int{4, 9}, nil, []int{2})
	pull(t, l, 0, 4)
	all(t, l, []int{9}, nil, []int{2})
	pull(t, l, 2, 2)
	all(t, l, []int{9}, nil, nil)
	pull(t, l, 0, 9)
	all(t, l, nil, nil, nil)
	nowhere(t, l, 1, 2, 4, 7, 9)
}

func TestPullOfNone(t *testing.T) {
	l := three(t)
	nowhere(t, l, append([]int{-9, -4, -1, 0, 3, 5, 6, 8, 10, 1<<32 + 4, -1<<32 + 9}, greats...)...)
	threeAsTheyWere(t, l)
	pull(t, l, 0, 9)
	nowhere(t, l, 9, 9)
	all(t, l, []int{4, 1}, nil, []int{7, 2})
}

func TestATicketMayStandAnywhereAgain(t *testing.T) {
	l := made(t, 3, 2)
	push(t, l, 2, 7)
	for i := range 30 {
		block, was := i%3, (i+2)%3
		refused(t, l, block, 7, api.Exists)
		pull(t, l, was, 7)
		push(t, l, block, 7)
		lanes := make([][]int, 3)
		lanes[block] = []int{7}
		all(t, l, lanes...)
	}
}

func TestBlockOfEachTicket(t *testing.T) {
	l := made(t, 256, 128)
	for i := range 128 {
		push(t, l, 2*i, 1000-7*i)
	}
	for i := range 128 {
		if block, stands := l.Block(1000 - 7*i); block != 2*i || !stands {
			t.Errorf("Block(%d): %d %v, not %d", 1000-7*i, block, stands, 2*i)
		}
		nowhere(t, l, 1000-7*i+1, 1000-7*i-1)
	}
	lenIs(t, l, 128)
}

// P11.3: what is told.

func TestTheExample(t *testing.T) {
	l := made(t, 4, 8)
	push(t, l, 3, 1, 2)
	push(t, l, 0, 9)
	headsAre(t, l, 9, 1)
	pull(t, l, 3, 1)
	all(t, l, []int{9}, nil, nil, []int{2})
}

func TestHeadsRiseByBlocks(t *testing.T) {
	l := made(t, 256, 128)
	for _, c := range [][2]int{{255, 1}, {0, 30}, {17, 2}, {128, 25}, {254, 3}, {1, 4}} {
		push(t, l, c[0], c[1], c[1]+100)
	}
	headsAre(t, l, 30, 4, 2, 25, 3, 1) // neither by their numbers, nor as they came
	pull(t, l, 17, 2)
	headsAre(t, l, 30, 4, 102, 25, 3, 1)
	pull(t, l, 17, 102)
	headsAre(t, l, 30, 4, 25, 3, 1)
	pull(t, l, 0, 130)
	headsAre(t, l, 30, 4, 25, 3, 1)
	pull(t, l, 0, 30)
	headsAre(t, l, 4, 25, 3, 1)
}

func TestHeadsOfAsManyAsThereMayBe(t *testing.T) {
	l := made(t, 256, 128)
	var want []int
	for i := range 128 {
		push(t, l, 255-i, i+1)
		want = slices.Insert(want, 0, i+1)
		headsAre(t, l, want...)
	}
}

func TestWhatIsToldIsMemoryOfItsOwn(t *testing.T) {
	l := three(t)
	pull(t, l, 0, 9) // so that a lane may have spare room
	lists := [][]int{l.Lane(0), l.Lane(1), l.Lane(2), l.Heads()}
	for _, list := range lists {
		list = list[:cap(list)]
		for i := range list {
			list[i] = 77
		}
	}
	all(t, l, []int{4, 1}, nil, []int{7, 2})
	push(t, l, 0, 9)
	threeAsTheyWere(t, l)
}

func TestWhatWasToldStays(t *testing.T) {
	l := three(t)
	first, last, heads := l.Lane(0), l.Lane(2), l.Heads()
	pull(t, l, 0, 4, 9)
	pull(t, l, 2, 7)
	push(t, l, 2, 30)
	push(t, l, 1, 31)
	if !slices.Equal(first, []int{4, 1, 9}) || !slices.Equal(last, []int{7, 2}) || !slices.Equal(heads, []int{4, 7}) {
		t.Errorf("what was told is %v, %v and %v", first, last, heads)
	}
	all(t, l, []int{1}, []int{31}, []int{2, 30})
}

func TestTellingChangesNothing(t *testing.T) {
	l := three(t)
	for range 3 {
		threeAsTheyWere(t, l)
	}
	push(t, l, 1, 3)
	refused(t, l, 1, 5, api.Full)
	all(t, l, []int{4, 1, 9}, []int{3}, []int{7, 2})
}

// P11.4: what follows.

func TestOneLaneIsNothingToAnother(t *testing.T) {
	d := &draws{state: 11}
	for range 50 {
		const blocks, each = 5, 4
		l := made(t, blocks, blocks*each) // there is room for all
		alone := [blocks]*lane.Lanes{}
		for block := range alone {
			alone[block] = made(t, 1, each)
		}
		for range 200 {
			block := d.below(blocks)
			ticket := 1 + block*each + d.below(each) // each lane has tickets of its own
			if d.below(2) == 0 {
				if got, want := l.Push(block, ticket), alone[block].Push(0, ticket); got != want {
					t.Fatalf("Push(%d, %d): %d, not %d", block, ticket, got, want)
				}
			} else {
				_, got := l.Pull(ticket)
				if _, want := alone[block].Pull(ticket); got != want {
					t.Fatalf("Pull(%d): %d, not %d", ticket, got, want)
				}
			}
			for block := range alone {
				laneIs(t, l, block, alone[block].Lane(0)...)
			}
		}
	}
}

func TestTheRoomIsForAllLanes(t *testing.T) {
	l := made(t, 3, 3)
	push(t, l, 0, 1, 2, 3)
	refused(t, l, 1, 4, api.Full)
	refused(t, l, 0, 4, api.Full)
	pull(t, l, 0, 2)
	push(t, l, 1, 4)
	refused(t, l, 0, 2, api.Full)
	pull(t, l, 1, 4)
	push(t, l, 0, 2)
	all(t, l, []int{1, 3, 2}, nil, nil)
}

// draws is a row of numbers that look as if they came by chance, and are the same ones each time.
type draws struct{ state uint64 }

func (d *draws) below(n int) int {
	d.state = d.state*6364136223846793005 + 1442695040888963407
	return int(d.state >> 33 % uint64(n))
}

// standing is a ticket in a lane.
type standing struct{ block, ticket int }

// plain are lanes as the chapter's words have them: all tickets, in the order in which they were pushed.
type plain struct {
	blocks, room int
	pushed       []standing
}

func (p *plain) place(ticket int) int {
	return slices.IndexFunc(p.pushed, func(s standing) bool { return s.ticket == ticket })
}

func (p *plain) push(block, ticket int) api.Code {
	switch {
	case block < 0 || block >= p.blocks || ticket < 1:
		return api.Arg
	case p.place(ticket) >= 0:
		return api.Exists
	case len(p.pushed) == p.room:
		return api.Full
	}
	p.pushed = append(p.pushed, standing{block, ticket})
	return api.OK
}

func (p *plain) pull(ticket int) (int, api.Code) {
	place := p.place(ticket)
	if place < 0 {
		return 0, api.NotFound
	}
	block := p.pushed[place].block
	p.pushed = slices.Delete(p.pushed, place, place+1)
	return block, api.OK
}

func (p *plain) lanes() [][]int {
	lanes := make([][]int, p.blocks)
	for _, s := range p.pushed {
		lanes[s.block] = append(lanes[s.block], s.ticket)
	}
	return lanes
}

// together lets both be used, and holds them against each other. It counts how pushes, and pulls, came out.
func together(t *testing.T, d *draws, blocks, room, tickets int, pushes, pulls map[api.Code]int) {
	t.Helper()
	l, p := made(t, blocks, room), &plain{blocks: blocks, room: room}
	for step := range 300 {
		block, ticket := d.below(blocks+2)-1, d.below(tickets+1)
		if d.below(5) < 3 {
			want := p.push(block, ticket)
			refused(t, l, block, ticket, want)
			pushes[want]++
		} else {
			wantBlock, want := p.pull(ticket)
			if got, code := l.Pull(ticket); got != wantBlock || code != want {
				t.Errorf("Pull(%d): %d %d, not %d %d", ticket, got, code, wantBlock, want)
			}
			pulls[want]++
		}
		all(t, l, p.lanes()...)
		if t.Failed() {
			t.Fatalf("%d blocks, room for %d, step %d", blocks, room, step)
		}
	}
}

func TestBesidePlainLanes(t *testing.T) {
	d := &draws{state: 1}
	pushes, pulls := map[api.Code]int{}, map[api.Code]int{}
	for _, blocks := range []int{1, 2, 3, 8, 20} {
		for _, room := range []int{1, 2, 5, 16, 128} {
			for range 4 {
				together(t, d, blocks, room, room+room/2+3, pushes, pulls)
			}
		}
	}
	together(t, d, 256, 128, 200, pushes, pulls)
	for _, code := range []api.Code{api.OK, api.Arg, api.Exists, api.Full} {
		if pushes[code] < 100 {
			t.Errorf("%d pushes came to %d", pushes[code], code)
		}
	}
	if pulls[api.OK] < 100 || pulls[api.NotFound] < 100 {
		t.Errorf("pulls came to %v", pulls)
	}
}
