package req_test

import (
	"math"
	"slices"
	"testing"

	"forerunner/api"
	"forerunner/req"
)

// greats are numbers that are no bound's neighbours, but may come to one by a sum, a difference, or by their lowest bits.
var greats = []int{math.MinInt, math.MinInt + 1, -1 << 32, -1<<32 + 1, 1 << 32, 1<<32 + 1, math.MaxInt - 1, math.MaxInt}

// kinds are those that a request can have.
var kinds = []int{api.OpRead, api.OpWrite}

func made(t *testing.T, room int) *req.Table {
	t.Helper()
	x, code := req.New(room)
	if x == nil || code != api.OK {
		t.Fatalf("New(%d): %v %d", room, x, code)
	}
	return x
}

func open(t *testing.T, x *req.Table, id, kind, count int, want api.Code) {
	t.Helper()
	if code := x.Open(id, kind, count); code != want {
		t.Errorf("Open(%d, %d, %d): %d, not %d", id, kind, count, code, want)
	}
}

func give(t *testing.T, x *req.Table, id, place int, value uint64, want api.Code) {
	t.Helper()
	if code := x.Give(id, place, value); code != want {
		t.Errorf("Give(%d, %d, %d): %d, not %d", id, place, value, code, want)
	}
}

func lose(t *testing.T, x *req.Table, id, place int, want api.Code) {
	t.Helper()
	if code := x.Lose(id, place); code != want {
		t.Errorf("Lose(%d, %d): %d, not %d", id, place, code, want)
	}
}

func cancel(t *testing.T, x *req.Table, id int, want api.Code) {
	t.Helper()
	if code := x.Cancel(id); code != want {
		t.Errorf("Cancel(%d): %d, not %d", id, code, want)
	}
}

// noPlace asks for a place that can neither be given nor lost.
func noPlace(t *testing.T, x *req.Table, id, place int, want api.Code) {
	t.Helper()
	give(t, x, id, place, 99, want)
	lose(t, x, id, place, want)
}

func take(t *testing.T, x *req.Table, want ...api.Answer) {
	t.Helper()
	if got := x.Take(); !slices.EqualFunc(got, want, same) {
		t.Errorf("Take: %v, not %v", got, want)
	}
}

func same(a, b api.Answer) bool {
	return a.ID == b.ID && a.Code == b.Code && slices.Equal(a.Values, b.Values)
}

func well(id int, values ...uint64) api.Answer {
	return api.Answer{ID: id, Code: api.OK, Values: values}
}

func failed(id int) api.Answer { return api.Answer{ID: id, Code: api.Failed} }

func cancelled(id int) api.Answer { return api.Answer{ID: id, Code: api.Cancelled} }

// The states of a place.
const (
	isOpen = iota
	isGiven
	isLost
)

// place is a place: its state, and what it was given.
type place struct {
	state int
	value uint64
}

// asked is a request that is pending.
type asked struct {
	id, kind int
	places   []place
}

// plain is a table as the chapter's words have it: all that are pending, in the order in which they were opened, and the answers that are kept.
type plain struct {
	room    int
	pending []*asked
	kept    []api.Answer
}

func (p *plain) find(id int) *asked {
	for _, a := range p.pending {
		if a.id == id {
			return a
		}
	}
	return nil
}

func (p *plain) open(id, kind, count int) api.Code {
	switch {
	case id < 1 || kind != 1 && kind != 2 || count < 1 || count > 8:
		return api.Arg
	case p.find(id) != nil:
		return api.Exists
	case len(p.pending) == p.room:
		return api.Full
	}
	p.pending = append(p.pending, &asked{id: id, kind: kind, places: make([]place, count)})
	return api.OK
}

// shut gives a place, or loses it.
func (p *plain) shut(id, at int, as place) api.Code {
	a := p.find(id)
	switch {
	case a == nil:
		return api.NotFound
	case at < 0 || at >= len(a.places):
		return api.Arg
	case a.places[at].state != isOpen:
		return api.Exists
	}
	a.places[at] = as
	if !a.has(isOpen) {
		p.end(a.answer())
	}
	return api.OK
}

func (p *plain) cancel(id int) api.Code {
	if p.find(id) == nil {
		return api.NotFound
	}
	p.end(cancelled(id))
	return api.OK
}

func (p *plain) end(answer api.Answer) {
	p.pending = slices.DeleteFunc(p.pending, func(a *asked) bool { return a.id == answer.ID })
	p.kept = append(p.kept, answer)
}

func (a *asked) has(state int) bool {
	return slices.ContainsFunc(a.places, func(p place) bool { return p.state == state })
}

func (a *asked) answer() api.Answer {
	if a.has(isLost) {
		return failed(a.id)
	}
	answer := well(a.id)
	if a.kind == api.OpRead {
		for _, p := range a.places {
			answer.Values = append(answer.Values, p.value)
		}
	}
	return answer
}

// as asks for all that is told without a change: just these are pending.
func as(t *testing.T, x *req.Table, p *plain) {
	t.Helper()
	numbers := append([]int{-1, 0, 1, 2}, greats...)
	var ids []int
	for _, a := range p.pending {
		ids = append(ids, a.id)
		numbers = append(numbers, a.id, a.id-1, a.id+1, -a.id, a.id^1<<32)
	}
	slices.Sort(ids)
	if got := x.Pending(); !slices.Equal(got, ids) {
		t.Errorf("Pending: %v, not %v", got, ids)
	}
	for _, id := range numbers {
		kind, touched := 0, false
		if a := p.find(id); a != nil {
			kind, touched = a.kind, a.has(isGiven) || a.has(isLost)
		}
		if got := x.Kind(id); got != kind {
			t.Errorf("Kind(%d): %d, not %d", id, got, kind)
		}
		if got := x.Touched(id); got != touched {
			t.Errorf("Touched(%d): %v, not %v", id, got, touched)
		}
	}
}

// three is a table with room for four, of which three are there: a read that was given something, a write that lost something, and a read of which all is open; and with an answer that is kept.
func three(t *testing.T) (*req.Table, *plain) {
	t.Helper()
	x, p := made(t, 4), &plain{room: 4}
	for _, o := range []asked{{id: 9, kind: api.OpRead}, {id: 2, kind: api.OpWrite}, {id: 5, kind: api.OpRead}, {id: 7, kind: api.OpRead}} {
		open(t, x, o.id, o.kind, 3, p.open(o.id, o.kind, 3))
	}
	give(t, x, 9, 1, 91, p.shut(9, 1, place{isGiven, 91}))
	lose(t, x, 2, 0, p.shut(2, 0, place{state: isLost}))
	cancel(t, x, 7, p.cancel(7))
	return x, p
}

// threeAsTheyWere asks for all of three, and lets them end, so that what they hadn't told yet is told.
func threeAsTheyWere(t *testing.T, x *req.Table, p *plain) {
	t.Helper()
	as(t, x, p)
	take(t, x, cancelled(7))
	for at := range 3 {
		if at != 1 {
			give(t, x, 9, at, uint64(90+at), api.OK)
		}
		if at != 0 {
			give(t, x, 2, at, uint64(20+at), api.OK)
		}
		give(t, x, 5, at, uint64(50+at), api.OK)
	}
	take(t, x, well(9, 90, 91, 92), failed(2), well(5, 50, 51, 52))
	as(t, x, &plain{})
}

// P17.1: a table is made, and requests are opened.

func TestNew(t *testing.T) {
	for room := -300; room <= 600; room++ {
		want := api.Arg
		if 1 <= room && room <= 16 {
			want = api.OK
		}
		if x, code := req.New(room); code != want || (x != nil) != (want == api.OK) {
			t.Errorf("New(%d): %v %d, not %d", room, x, code, want)
		}
	}
	for _, room := range greats {
		if x, code := req.New(room); x != nil || code != api.Arg {
			t.Errorf("New(%d): %v %d", room, x, code)
		}
	}
}

func TestAtFirstThereAreNone(t *testing.T) {
	for room := 1; room <= 16; room++ {
		x := made(t, room)
		as(t, x, &plain{})
		take(t, x)
		for _, id := range append([]int{-1, 0, 1, 2}, greats...) {
			noPlace(t, x, id, 0, api.NotFound)
			cancel(t, x, id, api.NotFound)
		}
		as(t, x, &plain{})
		take(t, x)
	}
}

func TestOpenOfEachNumber(t *testing.T) {
	for _, id := range []int{1, 2, 16, 17, 255, 256, 257, 1 << 20, 1<<31 - 1, 1 << 31, 1<<32 - 1, 1 << 32, 1<<32 + 1, math.MaxInt - 1, math.MaxInt} {
		x, p := made(t, 1), &plain{room: 1}
		open(t, x, id, api.OpRead, 1, p.open(id, api.OpRead, 1))
		as(t, x, p)
		give(t, x, id, 0, 3, api.OK)
		take(t, x, well(id, 3))
	}
	for _, id := range []int{0, -1, -2, -9, -1 << 31, -1<<32 + 9, -1 << 32, math.MinInt, math.MinInt + 9} {
		x, p := three(t)
		open(t, x, id, api.OpRead, 1, api.Arg)
		threeAsTheyWere(t, x, p)
	}
}

func TestOpenOfEachKind(t *testing.T) {
	numbers := slices.Concat(greats, []int{1<<32 + 2, -1<<32 + 2})
	for v := -20; v <= 40; v++ {
		numbers = append(numbers, v)
	}
	for _, kind := range numbers {
		x, p := three(t)
		if slices.Contains(kinds, kind) {
			open(t, x, 3, kind, 1, p.open(3, kind, 1))
			as(t, x, p)
			cancel(t, x, 3, api.OK)
			take(t, x, cancelled(7), cancelled(3))
		} else {
			open(t, x, 3, kind, 1, api.Arg)
			threeAsTheyWere(t, x, p)
		}
	}
}

func TestOpenOfEachCount(t *testing.T) {
	numbers := slices.Concat(greats, []int{1<<32 + 8, -1<<32 + 8, 256, 257, 264})
	for v := -20; v <= 40; v++ {
		numbers = append(numbers, v)
	}
	for _, kind := range kinds {
		for _, count := range numbers {
			x, p := three(t)
			if 1 <= count && count <= 8 {
				open(t, x, 3, kind, count, p.open(3, kind, count))
				as(t, x, p)
				noPlace(t, x, 3, count, api.Arg)
				lose(t, x, 3, count-1, api.OK)
			} else {
				open(t, x, 3, kind, count, api.Arg)
				threeAsTheyWere(t, x, p)
			}
		}
	}
}

func TestOpenOfOneThatIsPending(t *testing.T) {
	x, p := three(t)
	for _, id := range []int{9, 2, 5} {
		for _, kind := range kinds { // of its own kind, and of the other one
			for _, count := range []int{1, 3, 8} {
				open(t, x, id, kind, count, api.Exists)
			}
		}
	}
	threeAsTheyWere(t, x, p)
}

func TestOpenWithoutRoom(t *testing.T) {
	for room := 1; room <= 16; room++ {
		x, p := made(t, room), &plain{room: room}
		for i := range room {
			id, kind := 1+i*7%17, kinds[i%2]
			open(t, x, id, kind, 2, p.open(id, kind, 2))
		}
		for _, id := range []int{18, 100, math.MaxInt} {
			open(t, x, id, api.OpRead, 1, api.Full)
		}
		as(t, x, p)
	}
}

func TestWhatEndsMakesRoomForJustOne(t *testing.T) {
	for room := 1; room <= 16; room++ {
		x := made(t, room)
		for id := 1; id <= room; id++ {
			open(t, x, id, kinds[id%2], 1, api.OK)
		}
		var answers []api.Answer
		for id := 1; id <= 3*room; id++ { // the answers are kept, and take no room
			if id%3 == 0 {
				cancel(t, x, id, api.OK)
				answers = append(answers, cancelled(id))
			} else {
				lose(t, x, id, 0, api.OK)
				answers = append(answers, failed(id))
			}
			open(t, x, room+id, api.OpRead, 1, api.OK)
			open(t, x, 100, api.OpRead, 1, api.Full)
		}
		take(t, x, answers...)
		open(t, x, 100, api.OpRead, 1, api.Full)
	}
}

func TestOpenIsRefusedByTheCodeThatIsNamedFirst(t *testing.T) {
	x, p := three(t)
	open(t, x, 6, api.OpRead, 1, p.open(6, api.OpRead, 1))
	for _, c := range []struct {
		id, kind, count int
		want            api.Code
	}{
		{1, api.OpRead, 1, api.Full}, {7, api.OpWrite, 8, api.Full}, {math.MaxInt, api.OpRead, 1, api.Full},
		{9, api.OpRead, 1, api.Exists}, {2, api.OpRead, 8, api.Exists}, {6, api.OpWrite, 1, api.Exists},
		{0, api.OpRead, 1, api.Arg}, {-9, api.OpRead, 1, api.Arg}, {1, api.OpDrop, 1, api.Arg}, {1, api.OpRead, 9, api.Arg},
		{9, 0, 1, api.Arg}, {2, api.OpCancel, 1, api.Arg}, {9, api.OpRead, 0, api.Arg}, {6, api.OpRead, 9, api.Arg}, {0, 0, 0, api.Arg},
	} {
		open(t, x, c.id, c.kind, c.count, c.want)
		as(t, x, p)
	}
	cancel(t, x, 6, api.OK)
	take(t, x, cancelled(7), cancelled(6))
}

func TestANumberMayComeAgain(t *testing.T) {
	ends := []func(x *req.Table) api.Code{
		func(x *req.Table) api.Code { return x.Give(4, 0, 10) },
		func(x *req.Table) api.Code { return x.Lose(4, 0) },
		func(x *req.Table) api.Code { return x.Cancel(4) },
	}
	for i, answer := range []api.Answer{well(4, 10, 11, 12), failed(4), cancelled(4)} {
		x := made(t, 1)
		open(t, x, 4, api.OpRead, 3, api.OK)
		give(t, x, 4, 1, 11, api.OK)
		give(t, x, 4, 2, 12, api.OK)
		if code := ends[i](x); code != api.OK {
			t.Errorf("%d: %d", i, code)
		}
		open(t, x, 4, api.OpRead, 4, api.OK) // the first one's answer is kept still
		as(t, x, &plain{pending: []*asked{{id: 4, kind: api.OpRead, places: make([]place, 4)}}})
		for at, value := range []uint64{20, 21, 22, 23} { // nothing of the first one is left
			give(t, x, 4, at, value, api.OK)
		}
		take(t, x, answer, well(4, 20, 21, 22, 23))
	}
}

func TestTablesAreApart(t *testing.T) {
	x, other := made(t, 2), made(t, 2)
	open(t, x, 4, api.OpRead, 2, api.OK)
	as(t, other, &plain{})
	noPlace(t, other, 4, 0, api.NotFound)
	cancel(t, other, 4, api.NotFound)
	open(t, other, 4, api.OpWrite, 1, api.OK)
	lose(t, other, 4, 0, api.OK)
	take(t, x)
	take(t, other, failed(4))
	give(t, x, 4, 0, 1, api.OK)
	give(t, x, 4, 1, 2, api.OK)
	take(t, other)
	take(t, x, well(4, 1, 2))
}

// P17.2: what becomes of places, and of requests that are cancelled.

func TestTheExample(t *testing.T) {
	x := made(t, 1)
	open(t, x, 5, api.OpRead, 2, api.OK)
	give(t, x, 5, 1, 9, api.OK)
	take(t, x)
	give(t, x, 5, 0, 7, api.OK)
	take(t, x, well(5, 7, 9))
}

// orders are all orders of the numbers below n.
func orders(n int) [][]int {
	if n == 0 {
		return [][]int{nil}
	}
	var all [][]int
	for _, shorter := range orders(n - 1) {
		for at := range n {
			all = append(all, slices.Insert(slices.Clone(shorter), at, n-1))
		}
	}
	return all
}

func TestGiveInEachOrder(t *testing.T) {
	for count := 1; count <= 5; count++ {
		for _, order := range orders(count) {
			read, write := made(t, 1), made(t, 1)
			open(t, read, 1, api.OpRead, count, api.OK)
			open(t, write, 1, api.OpWrite, count, api.OK)
			values := make([]uint64, count)
			for _, at := range order {
				take(t, read)
				take(t, write)
				values[at] = uint64(100 + at)
				give(t, read, 1, at, values[at], api.OK)
				give(t, write, 1, at, values[at], api.OK)
			}
			take(t, read, well(1, values...))
			take(t, write, well(1))
		}
	}
}

func TestGiveOfEachCount(t *testing.T) {
	for count := 1; count <= 8; count++ {
		for first := range count { // round from whichever place on
			x := made(t, 1)
			open(t, x, 1, api.OpRead, count, api.OK)
			values := make([]uint64, count)
			for i := range count {
				at := (first + i) % count
				values[at] = uint64(7 * (1 + at))
				take(t, x)
				give(t, x, 1, at, values[at], api.OK)
			}
			take(t, x, well(1, values...))
			as(t, x, &plain{})
		}
	}
}

func TestGiveOfEachValue(t *testing.T) {
	values := []uint64{0, 1, 1<<31 - 1, 1 << 31, 1<<32 + 1, 1<<63 - 1, 1 << 63, math.MaxUint64}
	x := made(t, 2)
	open(t, x, 1, api.OpRead, 8, api.OK)
	open(t, x, 2, api.OpRead, 8, api.OK)
	for at, value := range values {
		give(t, x, 1, at, value, api.OK)
		give(t, x, 2, at, 0, api.OK) // 0 is a value as others are
	}
	take(t, x, well(1, values...), well(2, make([]uint64, 8)...))
}

func TestLoseOfEachSetOfPlaces(t *testing.T) {
	for _, kind := range kinds {
		for count := 1; count <= 8; count++ {
			for lost := 1; lost < 1<<count; lost++ { // its bits say which are lost
				x := made(t, 1)
				open(t, x, 1, kind, count, api.OK)
				for at := range count {
					take(t, x)
					if lost>>at&1 == 1 {
						lose(t, x, 1, at, api.OK)
					} else {
						give(t, x, 1, at, 5, api.OK)
					}
				}
				take(t, x, failed(1))
				as(t, x, &plain{})
			}
		}
	}
}

func TestOfWhatIsNotPending(t *testing.T) {
	x, p := three(t)
	for _, id := range append([]int{-9, -5, -2, -1, 0, 1, 3, 4, 6, 7, 8, 10, 1<<32 + 9, -1<<32 + 9}, greats...) {
		for _, at := range []int{0, 1, 2, 3, -1, 8, math.MaxInt} { // NotFound, whatever the place
			noPlace(t, x, id, at, api.NotFound)
		}
		cancel(t, x, id, api.NotFound)
	}
	threeAsTheyWere(t, x, p)
}

func TestOfAPlaceThatThereIsNot(t *testing.T) {
	places := slices.Concat(greats, []int{-1<<32 + 2, 1<<32 + 2, math.MinInt + 2, 256, 257})
	for v := -20; v <= 40; v++ {
		if v < 0 || v > 2 {
			places = append(places, v)
		}
	}
	x, p := three(t)
	for _, at := range places {
		for _, id := range []int{9, 2, 5} {
			noPlace(t, x, id, at, api.Arg)
		}
	}
	threeAsTheyWere(t, x, p)
	for count := 1; count <= 8; count++ { // at the end of each
		x := made(t, 1)
		open(t, x, 1, api.OpRead, count, api.OK)
		noPlace(t, x, 1, count, api.Arg)
		noPlace(t, x, 1, -1, api.Arg)
		if x.Touched(1) {
			t.Errorf("%d places: what it hasn't touched it", count)
		}
	}
}

func TestOfAPlaceThatIsNotOpen(t *testing.T) {
	x, p := three(t)
	for range 3 {
		noPlace(t, x, 9, 1, api.Exists)
		noPlace(t, x, 2, 0, api.Exists)
	}
	threeAsTheyWere(t, x, p) // what was given is as it was, and so is what was lost
}

func TestCancel(t *testing.T) {
	for _, kind := range kinds {
		for count := 1; count <= 8; count++ {
			for shut := range count { // so many places aren't open
				x := made(t, 1)
				open(t, x, 3, kind, count, api.OK)
				for at := range shut {
					if at%3 == 1 {
						lose(t, x, 3, at, api.OK)
					} else {
						give(t, x, 3, at, 8, api.OK)
					}
				}
				cancel(t, x, 3, api.OK)
				as(t, x, &plain{})
				cancel(t, x, 3, api.NotFound)
				noPlace(t, x, 3, count-1, api.NotFound)
				take(t, x, cancelled(3))
				cancel(t, x, 3, api.NotFound)
				take(t, x)
			}
		}
	}
}

func TestWhatEndedIsNotCancelled(t *testing.T) {
	x := made(t, 3)
	for id := 1; id <= 3; id++ {
		open(t, x, id, kinds[id/2%2], 1, api.OK)
	}
	give(t, x, 1, 0, 6, api.OK)
	lose(t, x, 3, 0, api.OK)
	give(t, x, 2, 0, 6, api.OK)
	for id := 1; id <= 3; id++ {
		cancel(t, x, id, api.NotFound)
		noPlace(t, x, id, 0, api.NotFound)
	}
	take(t, x, well(1, 6), failed(3), well(2))
}

// P17.3: what is told.

func TestTakeTellsAnswersAsTheyCame(t *testing.T) {
	for range 20 { // whatever the order in which a map is gone through
		x := made(t, 16)
		for i := range 16 {
			open(t, x, 1+i*11%16, kinds[i%2], 1, api.OK)
		}
		var answers []api.Answer
		for i := range 16 {
			id := 1 + i*5%16
			if i%4 == 0 {
				cancel(t, x, id, api.OK)
				answers = append(answers, cancelled(id))
			} else {
				lose(t, x, id, 0, api.OK)
				answers = append(answers, failed(id))
			}
		}
		take(t, x, answers...)
		take(t, x)
	}
}

func TestTakeTellsWhatCameSince(t *testing.T) {
	x := made(t, 2)
	for id := 1; id <= 40; id++ {
		open(t, x, id, api.OpRead, 1, api.OK)
		give(t, x, id, 0, uint64(id), api.OK)
		take(t, x, well(id, uint64(id)))
		take(t, x)
	}
}

func TestAnswersAreKeptTillTheyAreTaken(t *testing.T) {
	x := made(t, 1)
	var answers []api.Answer
	for i := range 500 { // many more than may be pending, some of one number
		id := 1 + i%7
		open(t, x, id, api.OpRead, 1, api.OK)
		give(t, x, id, 0, uint64(i), api.OK)
		answers = append(answers, well(id, uint64(i)))
	}
	take(t, x, answers...)
	take(t, x)
}

func TestPendingIsRising(t *testing.T) {
	for _, ids := range [][]int{{1}, {2, 1}, {5, 3, 4}, {9, 1, 8, 2}, {math.MaxInt, 1, 1 << 32, 1 << 31}, {16, 15, 14, 13, 12, 11, 10, 9, 8, 7, 6, 5, 4, 3, 2, 1}} {
		for range 20 { // whatever the order in which a map is gone through
			x, p := made(t, 16), &plain{room: 16}
			for i, id := range ids {
				open(t, x, id, kinds[i%2], 1, p.open(id, kinds[i%2], 1))
				as(t, x, p)
			}
			for _, id := range ids {
				cancel(t, x, id, p.cancel(id))
				as(t, x, p)
			}
		}
	}
}

func TestTouchedByEachPlace(t *testing.T) {
	for _, kind := range kinds {
		for count := 2; count <= 8; count++ {
			for at := range count {
				x := made(t, 3)
				for id := 1; id <= 3; id++ {
					open(t, x, id, kind, count, api.OK)
				}
				give(t, x, 1, at, 0, api.OK)
				lose(t, x, 3, at, api.OK)
				for id, want := range map[int]bool{1: true, 2: false, 3: true} {
					if got := x.Touched(id); got != want {
						t.Errorf("kind %d, place %d of %d: Touched(%d): %v", kind, at, count, id, got)
					}
				}
			}
		}
	}
}

func TestWhatEndedIsTouchedNoMore(t *testing.T) {
	x := made(t, 3)
	for id := 1; id <= 3; id++ {
		open(t, x, id, api.OpRead, 2, api.OK)
		give(t, x, id, 1, 4, api.OK)
	}
	give(t, x, 1, 0, 3, api.OK)
	lose(t, x, 2, 0, api.OK)
	cancel(t, x, 3, api.OK)
	as(t, x, &plain{})
	take(t, x, well(1, 3, 4), failed(2), cancelled(3))
	as(t, x, &plain{})
}

func TestTellingChangesNothing(t *testing.T) {
	x, p := three(t)
	for range 3 {
		as(t, x, p)
	}
	threeAsTheyWere(t, x, p)
}

func TestWhatIsToldIsMemoryOfItsOwn(t *testing.T) {
	x, p := three(t)
	pending := x.Pending()
	for i := range pending[:cap(pending)] {
		pending[:cap(pending)][i] = 77
	}
	as(t, x, p)
	open(t, x, 3, api.OpRead, 1, api.OK)
	give(t, x, 3, 0, 30, api.OK)
	told := x.Take()
	for i := range told[:cap(told)] {
		told[:cap(told)][i] = well(77, 7)
	}
	open(t, x, 7, api.OpRead, 1, api.OK)
	cancel(t, x, 7, api.OK)
	threeAsTheyWere(t, x, p)
}

func TestNoTwoAnswersShareMemory(t *testing.T) {
	x := made(t, 2)
	for _, id := range []int{1, 2} {
		open(t, x, id, api.OpRead, 3, api.OK)
		for at := range 3 {
			give(t, x, id, at, uint64(10*id+at), api.OK)
		}
	}
	told := x.Take()
	first := told[0].Values
	for i := range first[:cap(first)] {
		first[:cap(first)][i] = 99
	}
	if !same(told[1], well(2, 20, 21, 22)) {
		t.Errorf("the second answer is %v", told[1])
	}
}

func TestWhatWasToldStays(t *testing.T) {
	x, _ := three(t)
	open(t, x, 3, api.OpRead, 2, api.OK)
	give(t, x, 3, 0, 30, api.OK)
	give(t, x, 3, 1, 31, api.OK)
	told, pending := x.Take(), x.Pending()
	for id := 20; id < 40; id++ {
		open(t, x, id, api.OpRead, 2, api.OK)
		give(t, x, id, 0, 88, api.OK)
		give(t, x, id, 1, 88, api.OK)
	}
	cancel(t, x, 5, api.OK)
	if want := []api.Answer{cancelled(7), well(3, 30, 31)}; !slices.EqualFunc(told, want, same) {
		t.Errorf("what was told is %v", told)
	}
	if !slices.Equal(pending, []int{2, 5, 9}) {
		t.Errorf("what was told is %v", pending)
	}
}

// P17.4: what follows.

func TestEachRequestHasJustOneAnswer(t *testing.T) {
	for _, kind := range kinds {
		for count := 1; count <= 4; count++ {
			for _, order := range orders(count) {
				for lost := range 1 << count {
					for quits := range count + 1 { // it is cancelled when so many places were shut; not at all, if that is all of them
						oneAnswer(t, kind, order, lost, quits)
					}
				}
			}
		}
	}
}

// oneAnswer lets one request end, and asks behind each step what came till then.
func oneAnswer(t *testing.T, kind int, order []int, lost, quits int) {
	t.Helper()
	x, p := made(t, 1), &plain{room: 1}
	open(t, x, 6, kind, len(order), p.open(6, kind, len(order)))
	var came []api.Answer
	for i, at := range order {
		if i == quits {
			cancel(t, x, 6, p.cancel(6))
		}
		if lost>>at&1 == 1 {
			lose(t, x, 6, at, p.shut(6, at, place{state: isLost}))
		} else {
			give(t, x, 6, at, uint64(60+at), p.shut(6, at, place{isGiven, uint64(60 + at)}))
		}
		came = append(came, x.Take()...)
		if ended := len(x.Pending()) == 0; ended != (len(came) == 1) {
			t.Errorf("it ended: %v, and its answers are %v", ended, came)
		}
	}
	cancel(t, x, 6, api.NotFound)
	came = append(came, x.Take()...)
	if len(came) != 1 || !slices.EqualFunc(came, p.kept, same) {
		t.Errorf("kind %d, order %v, lost %b, quits %d: %v, not %v", kind, order, lost, quits, came, p.kept)
	}
}

// draws is a row of numbers that look as if they came by chance, and are the same ones each time.
type draws struct{ state uint64 }

func (d *draws) below(n int) int {
	d.state = d.state*6364136223846793005 + 1442695040888963407
	return int(d.state >> 33 % uint64(n))
}

// act is what is done to a request.
type act func(x *req.Table) api.Code

// someActs are what is done to a request, till it ends, and its number.
func someActs(d *draws, id int) []act {
	kind, count := kinds[d.below(2)], 1+d.below(8)
	acts := []act{func(x *req.Table) api.Code { return x.Open(id, kind, count) }}
	first, step := d.below(count), []int{1, -1}[d.below(2)]
	quits := d.below(2 * count)
	for i := range count {
		at, value := (first+step*i+count)%count, uint64(d.below(1000))
		switch {
		case i == quits:
			return append(acts, func(x *req.Table) api.Code { return x.Cancel(id) })
		case d.below(12) == 0:
			acts = append(acts, func(x *req.Table) api.Code { return x.Lose(id, at) })
		default:
			acts = append(acts, func(x *req.Table) api.Code { return x.Give(id, at, value) })
		}
	}
	return acts
}

func TestRequestsAreNothingToEachOther(t *testing.T) {
	d := &draws{state: 17}
	met := map[api.Code]int{}
	for range 300 {
		x := made(t, 16)
		var todo [][]act
		want := map[int]api.Answer{}
		for id := 1; id <= 16; id++ {
			acts := someActs(d, id)
			todo = append(todo, acts)
			want[id] = alone(t, acts)
			met[want[id].Code]++
		}
		for len(todo) > 0 { // some one goes on
			i := d.below(len(todo))
			if code := todo[i][0](x); code != api.OK {
				t.Errorf("it came to %d", code)
			}
			if todo[i] = todo[i][1:]; len(todo[i]) == 0 {
				todo = slices.Delete(todo, i, i+1)
			}
		}
		answers := x.Take()
		for _, a := range answers {
			if !same(a, want[a.ID]) {
				t.Errorf("%v, but alone %v", a, want[a.ID])
			}
			delete(want, a.ID)
		}
		if len(want) > 0 || len(answers) != 16 {
			t.Errorf("%d answers; without one are %v", len(answers), want)
		}
	}
	for _, code := range []api.Code{api.OK, api.Failed, api.Cancelled} {
		if met[code] < 100 {
			t.Errorf("%d came to %d", met[code], code)
		}
	}
}

// alone is the answer of a request that has a table of its own.
func alone(t *testing.T, acts []act) api.Answer {
	t.Helper()
	x := made(t, 1)
	for _, do := range acts {
		if code := do(x); code != api.OK {
			t.Fatalf("it came to %d", code)
		}
	}
	answers := x.Take()
	if len(answers) != 1 {
		t.Fatalf("answers: %v", answers)
	}
	return answers[0]
}

// together lets both be used, and holds them against each other. It counts how it was met.
func together(t *testing.T, d *draws, room, ids int, met map[api.Code]int) {
	t.Helper()
	x, p := made(t, room), &plain{room: room}
	for step := range 400 {
		id, at, value := d.below(ids+1), d.below(10)-1, uint64(d.below(50))
		var got, want api.Code
		switch d.below(16) {
		case 0:
			got, want = x.Cancel(id), p.cancel(id)
		case 1:
			for _, a := range p.kept {
				met[a.Code]++
			}
			take(t, x, p.kept...)
			p.kept = nil
		case 2, 3:
			got, want = x.Lose(id, at), p.shut(id, at, place{state: isLost})
		case 4, 5, 6, 7:
			kind, count := d.below(4), d.below(10)
			got, want = x.Open(id, kind, count), p.open(id, kind, count)
		default:
			got, want = x.Give(id, at, value), p.shut(id, at, place{isGiven, value})
		}
		met[want]++
		if got != want {
			t.Errorf("it came to %d, not %d", got, want)
		}
		as(t, x, p)
		if t.Failed() {
			t.Fatalf("room for %d, step %d", room, step)
		}
	}
	for _, a := range p.kept {
		met[a.Code]++
	}
	take(t, x, p.kept...)
}

func TestBesideAPlainTable(t *testing.T) {
	d := &draws{state: 1}
	met := map[api.Code]int{}
	for room := 1; room <= 16; room++ {
		for _, ids := range []int{1, 3, 8, 20} {
			together(t, d, room, ids, met)
		}
	}
	for _, code := range []api.Code{api.OK, api.Arg, api.Exists, api.Full, api.NotFound, api.Failed, api.Cancelled} {
		if met[code] < 20 {
			t.Errorf("%d came to %d", met[code], code)
		}
	}
}

// TestTheSameComesToTheSame: what is told hangs on what was done, and on nothing else.
func TestTheSameComesToTheSame(t *testing.T) {
	var first []api.Answer
	for round := range 20 {
		d, x := &draws{state: 3}, made(t, 8)
		var all []api.Answer
		for range 500 {
			id := 1 + d.below(10)
			x.Open(id, 1+d.below(2), 1+d.below(3))
			x.Give(id, d.below(3), uint64(d.below(100)))
			if d.below(9) == 0 {
				x.Cancel(1 + d.below(10))
			}
			if d.below(5) == 0 {
				all = append(all, x.Take()...)
			}
		}
		if round == 0 {
			first = all
		}
		if !slices.EqualFunc(all, first, same) {
			t.Fatalf("round %d is another one", round)
		}
	}
}
