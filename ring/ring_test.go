package ring_test

import (
	"math"
	"slices"
	"testing"

	"forerunner/api"
	"forerunner/ring"
)

func made(t *testing.T, nodes, bottom int) *ring.Shelf {
	t.Helper()
	s, code := ring.New(nodes, bottom)
	if code != api.OK || s == nil {
		t.Fatalf("New(%d, %d): %v %d", nodes, bottom, s, code)
	}
	return s
}

func front(t *testing.T, s *ring.Shelf, list, node int, want api.Code) {
	t.Helper()
	if code := s.Front(list, node); code != want {
		t.Errorf("Front(%d, %d): %d, not %d", list, node, code, want)
	}
}

// frontAll puts nodes in front of a list, one behind the other.
func frontAll(t *testing.T, s *ring.Shelf, list int, nodes ...int) {
	t.Helper()
	for _, node := range nodes {
		front(t, s, list, node, api.OK)
	}
}

func drop(t *testing.T, s *ring.Shelf, node int, want api.Code) {
	t.Helper()
	if code := s.Drop(node); code != want {
		t.Errorf("Drop(%d): %d, not %d", node, code, want)
	}
}

func hold(t *testing.T, s *ring.Shelf, node int, held bool, want api.Code) {
	t.Helper()
	if code := s.Hold(node, held); code != want {
		t.Errorf("Hold(%d, %v): %d, not %d", node, held, code, want)
	}
}

func lastIs(t *testing.T, s *ring.Shelf, list, node int, there bool) {
	t.Helper()
	if got, ok := s.Last(list); got != node || ok != there {
		t.Errorf("Last(%d): %d %v, not %d %v", list, got, ok, node, there)
	}
}

func listIs(t *testing.T, s *ring.Shelf, list int, want ...int) {
	t.Helper()
	if got := s.List(list); !slices.Equal(got, want) {
		t.Errorf("List(%d): %v, not %v", list, got, want)
	}
	if got := s.Len(list); got != len(want) {
		t.Errorf("Len(%d): %d, not %d", list, got, len(want))
	}
}

func heldIs(t *testing.T, s *ring.Shelf, want ...int) {
	t.Helper()
	if got := s.Held(); !slices.Equal(got, want) {
		t.Errorf("Held: %v, not %v", got, want)
	}
}

// place is what a shelf tells of a node.
type place struct {
	list    int
	low, ok bool
}

// nowhere is what it tells of one that lies in no list.
var nowhere = place{}

func whereIs(t *testing.T, s *ring.Shelf, node int, want place) {
	t.Helper()
	list, low, ok := s.Where(node)
	if got := (place{list, low, ok}); got != want {
		t.Errorf("Where(%d): %v, not %v", node, got, want)
	}
}

// bottomIs asks which nodes of a list lie in the bottom, from the first on.
func bottomIs(t *testing.T, s *ring.Shelf, list int, want ...int) {
	t.Helper()
	var got []int
	for _, node := range s.List(list) {
		in, low, ok := s.Where(node)
		if in != list || !ok {
			t.Errorf("Where(%d): %d %v, but it is in list %d", node, in, ok, list)
		}
		if low {
			got = append(got, node)
		}
	}
	if !slices.Equal(got, want) {
		t.Errorf("the bottom of %d: %v, not %v", list, got, want)
	}
}

// state is all that a shelf tells.
type state struct {
	lists  [2][]int
	lens   [2]int
	lasts  [2]place
	held   []int
	places []place
}

func told(s *ring.Shelf, nodes int) (all state) {
	for list := range 2 {
		all.lists[list], all.lens[list] = s.List(list), s.Len(list)
		node, ok := s.Last(list)
		all.lasts[list] = place{list: node, ok: ok}
	}
	all.held = s.Held()
	for node := range nodes {
		list, low, ok := s.Where(node)
		all.places = append(all.places, place{list, low, ok})
	}
	return all
}

func same(a, b state) bool {
	for list := range 2 {
		if !slices.Equal(a.lists[list], b.lists[list]) {
			return false
		}
	}
	return a.lens == b.lens && a.lasts == b.lasts && slices.Equal(a.held, b.held) && slices.Equal(a.places, b.places)
}

// notNodes are numbers that no node of a shelf of so many has: the lists' own ones, if there are such, among them.
func notNodes(nodes int) []int {
	return []int{-1, -2, -64, math.MinInt, math.MinInt + 1, nodes, nodes + 1, nodes + 2, 64, 65, 66, 1 << 32, math.MaxInt}
}

// notLists are numbers that no list has.
func notLists() []int {
	return []int{-1, -2, 2, 3, 64, 1 << 32, 1<<32 + 1, math.MinInt, math.MaxInt}
}

// P6.1: a shelf is made.

func TestNew(t *testing.T) {
	for nodes := -3; nodes <= 70; nodes++ {
		for bottom := -3; bottom <= 70; bottom++ {
			want := api.Arg
			if 1 <= nodes && nodes <= 64 && 1 <= bottom && bottom <= nodes {
				want = api.OK
			}
			s, code := ring.New(nodes, bottom)
			if code != want || (s == nil) != (want != api.OK) {
				t.Errorf("New(%d, %d): %v %d, not %d", nodes, bottom, s, code, want)
			}
		}
	}
}

func TestNewOfGreatNumbers(t *testing.T) {
	great := []int{math.MinInt, math.MinInt + 1, -1 << 32, 1<<32 + 1, math.MaxInt - 2, math.MaxInt}
	for _, a := range great {
		for _, c := range [][2]int{{a, 1}, {a, a}, {a, -a}, {64, a}, {1, a}, {a, 64}} {
			if s, code := ring.New(c[0], c[1]); s != nil || code != api.Arg {
				t.Errorf("New(%d, %d): %v %d", c[0], c[1], s, code)
			}
		}
	}
}

func TestAtFirstAllLieInNone(t *testing.T) {
	for _, nodes := range []int{1, 2, 3, 63, 64} {
		s := made(t, nodes, 1)
		for list := range 2 {
			listIs(t, s, list)
			lastIs(t, s, list, 0, false)
		}
		heldIs(t, s)
		for node := range nodes {
			whereIs(t, s, node, nowhere)
			drop(t, s, node, api.NotFound)
			hold(t, s, node, true, api.NotFound)
			hold(t, s, node, false, api.NotFound)
		}
	}
}

func TestShelvesAreApart(t *testing.T) {
	s, other := made(t, 3, 1), made(t, 3, 1)
	frontAll(t, s, 0, 0, 1)
	hold(t, s, 1, true, api.OK)
	listIs(t, other, 0)
	heldIs(t, other)
	frontAll(t, other, 1, 1, 2)
	listIs(t, s, 0, 1, 0)
	heldIs(t, other)
}

// P6.2: nodes come in front, go, and are held.

func TestFront(t *testing.T) {
	s := made(t, 6, 2)
	frontAll(t, s, 0, 3)
	listIs(t, s, 0, 3)
	listIs(t, s, 1)
	frontAll(t, s, 0, 5, 0)
	frontAll(t, s, 1, 1, 4)
	listIs(t, s, 0, 0, 5, 3)
	listIs(t, s, 1, 4, 1)
	whereIs(t, s, 2, nowhere)
}

func TestFrontWhereverItLayBefore(t *testing.T) {
	for _, c := range []struct {
		list, node int
		want       [2][]int
	}{
		{0, 0, [2][]int{{0, 2, 1}, {5, 4, 3}}}, // the last of its own list
		{0, 1, [2][]int{{1, 2, 0}, {5, 4, 3}}}, // one between
		{0, 2, [2][]int{{2, 1, 0}, {5, 4, 3}}}, // the first already
		{0, 3, [2][]int{{3, 2, 1, 0}, {5, 4}}}, // the last of the other one
		{0, 4, [2][]int{{4, 2, 1, 0}, {5, 3}}}, // one between
		{0, 5, [2][]int{{5, 2, 1, 0}, {4, 3}}}, // the first
		{0, 6, [2][]int{{6, 2, 1, 0}, {5, 4, 3}}},
		{1, 0, [2][]int{{2, 1}, {0, 5, 4, 3}}},
		{1, 1, [2][]int{{2, 0}, {1, 5, 4, 3}}},
		{1, 2, [2][]int{{1, 0}, {2, 5, 4, 3}}},
		{1, 3, [2][]int{{2, 1, 0}, {3, 5, 4}}},
		{1, 4, [2][]int{{2, 1, 0}, {4, 5, 3}}},
		{1, 5, [2][]int{{2, 1, 0}, {5, 4, 3}}},
		{1, 6, [2][]int{{2, 1, 0}, {6, 5, 4, 3}}},
	} {
		s := made(t, 7, 2)
		frontAll(t, s, 0, 0, 1, 2)
		frontAll(t, s, 1, 3, 4, 5)
		front(t, s, c.list, c.node, api.OK)
		listIs(t, s, 0, c.want[0]...)
		listIs(t, s, 1, c.want[1]...)
	}
}

func TestFrontOfTheOnlyOne(t *testing.T) {
	s := made(t, 1, 1)
	for _, list := range []int{0, 0, 1, 1, 0} {
		front(t, s, list, 0, api.OK)
		listIs(t, s, list, 0)
		listIs(t, s, 1-list)
		lastIs(t, s, list, 0, true)
		lastIs(t, s, 1-list, 0, false)
		whereIs(t, s, 0, place{list, true, true})
	}
	drop(t, s, 0, api.OK)
	listIs(t, s, 0)
	listIs(t, s, 1)
}

func TestInFrontItIsHeldJustIfItWas(t *testing.T) {
	s := made(t, 4, 1)
	frontAll(t, s, 0, 0, 1)
	hold(t, s, 1, true, api.OK)
	for _, list := range []int{0, 1, 1, 0} {
		frontAll(t, s, list, 1, 0)
		heldIs(t, s, 1)
	}
	hold(t, s, 1, false, api.OK)
	frontAll(t, s, 1, 1, 2)
	heldIs(t, s)
}

func TestDrop(t *testing.T) {
	for gone, want := range [][]int{{3, 2, 1}, {3, 2, 0}, {3, 1, 0}, {2, 1, 0}} {
		s := made(t, 5, 2)
		frontAll(t, s, 0, 0, 1, 2, 3)
		frontAll(t, s, 1, 4)
		drop(t, s, gone, api.OK)
		listIs(t, s, 0, want...)
		listIs(t, s, 1, 4)
		whereIs(t, s, gone, nowhere)
		drop(t, s, gone, api.NotFound)
		listIs(t, s, 0, want...)
		front(t, s, 0, gone, api.OK)
		listIs(t, s, 0, append([]int{gone}, want...)...)
	}
}

func TestWhatIsDroppedIsNotHeld(t *testing.T) {
	s := made(t, 3, 1)
	frontAll(t, s, 1, 0, 1, 2)
	for _, node := range []int{0, 1, 2} {
		hold(t, s, node, true, api.OK)
	}
	drop(t, s, 1, api.OK)
	heldIs(t, s, 0, 2)
	front(t, s, 0, 1, api.OK) // it isn't held, as it wasn't
	heldIs(t, s, 0, 2)
	lastIs(t, s, 0, 1, true)
}

func TestHold(t *testing.T) {
	s := made(t, 3, 1)
	frontAll(t, s, 0, 0, 2)
	for _, c := range []struct {
		node int
		held bool
		want []int
	}{{2, false, nil}, {2, true, []int{2}}, {2, true, []int{2}}, {0, true, []int{0, 2}}, {2, false, []int{0}}, {2, false, []int{0}}, {0, false, nil}} {
		hold(t, s, c.node, c.held, api.OK)
		heldIs(t, s, c.want...)
		listIs(t, s, 0, 2, 0)
	}
	hold(t, s, 1, true, api.NotFound)
	hold(t, s, 1, false, api.NotFound)
	heldIs(t, s)
	front(t, s, 0, 1, api.OK)
	heldIs(t, s)
}

func TestOfNoSuchNodeOrList(t *testing.T) {
	for _, nodes := range []int{1, 2, 5, 63, 64} {
		s := made(t, nodes, 1)
		for round := range 3 { // with nothing in the lists, one held node, and all of them
			if round > 0 {
				front(t, s, 0, 0, api.OK)
				hold(t, s, 0, true, api.OK)
			}
			for node := 0; round > 1 && node < nodes; node++ {
				front(t, s, node%2, node, api.OK)
			}
			before := told(s, nodes)
			for _, node := range notNodes(nodes) {
				if node >= 0 && node < nodes {
					continue
				}
				for _, list := range []int{0, 1, -1, 2, math.MaxInt} {
					front(t, s, list, node, api.Arg)
				}
				drop(t, s, node, api.Arg)
				hold(t, s, node, true, api.Arg)
				hold(t, s, node, false, api.Arg)
				whereIs(t, s, node, nowhere)
			}
			for _, list := range notLists() {
				front(t, s, list, 0, api.Arg)
				front(t, s, list, nodes-1, api.Arg)
				lastIs(t, s, list, 0, false)
				listIs(t, s, list)
			}
			if after := told(s, nodes); !same(before, after) {
				t.Errorf("of %d nodes: %v, not %v", nodes, after, before)
			}
		}
	}
}

// P6.3: what a shelf tells.

func TestLast(t *testing.T) {
	s := made(t, 5, 1)
	frontAll(t, s, 0, 4, 1, 3)
	frontAll(t, s, 1, 2)
	lastIs(t, s, 0, 4, true)
	lastIs(t, s, 1, 2, true)
	hold(t, s, 4, true, api.OK) // beyond the bottom, too
	lastIs(t, s, 0, 1, true)
	hold(t, s, 3, true, api.OK)
	lastIs(t, s, 0, 1, true)
	hold(t, s, 1, true, api.OK)
	lastIs(t, s, 0, 0, false)
	lastIs(t, s, 1, 2, true)
	hold(t, s, 3, false, api.OK)
	lastIs(t, s, 0, 3, true)
	hold(t, s, 4, false, api.OK)
	lastIs(t, s, 0, 4, true)
}

func TestTheNode0MayBeTheLast(t *testing.T) {
	s := made(t, 2, 1)
	frontAll(t, s, 1, 0, 1)
	lastIs(t, s, 1, 0, true)
	whereIs(t, s, 0, place{1, true, true})
	hold(t, s, 0, true, api.OK)
	heldIs(t, s, 0)
	lastIs(t, s, 1, 1, true)
}

func TestWhere(t *testing.T) {
	s := made(t, 6, 2)
	frontAll(t, s, 0, 0, 1, 2)
	frontAll(t, s, 1, 4)
	for node, want := range []place{{0, true, true}, {0, true, true}, {0, false, true}, nowhere, {1, true, true}, nowhere} {
		whereIs(t, s, node, want)
	}
	hold(t, s, 0, true, api.OK) // who is held lies where it lies
	whereIs(t, s, 0, place{0, true, true})
	whereIs(t, s, 2, place{0, false, true})
}

func TestTheBottomOfEachSize(t *testing.T) {
	for bottom := 1; bottom <= 64; bottom++ {
		s := made(t, 64, bottom)
		for node := range 64 {
			front(t, s, 0, node, api.OK)
			for i := range node + 1 {
				whereIs(t, s, i, place{0, i < bottom, true})
			}
		}
	}
}

func TestTheBottomGoesOn(t *testing.T) {
	s := made(t, 6, 2)
	frontAll(t, s, 0, 0, 1, 2, 3)
	bottomIs(t, s, 0, 1, 0)
	front(t, s, 0, 0, api.OK) // from the bottom
	bottomIs(t, s, 0, 2, 1)
	front(t, s, 0, 3, api.OK) // from above it
	bottomIs(t, s, 0, 2, 1)
	drop(t, s, 2, api.OK)
	bottomIs(t, s, 0, 0, 1)
	front(t, s, 1, 1, api.OK)
	bottomIs(t, s, 0, 3, 0)
	bottomIs(t, s, 1, 1)
	front(t, s, 1, 0, api.OK) // fewer than the bottom's size are left
	bottomIs(t, s, 0, 3)
	bottomIs(t, s, 1, 0, 1)
	drop(t, s, 3, api.OK)
	bottomIs(t, s, 0)
	front(t, s, 1, 5, api.OK)
	bottomIs(t, s, 1, 0, 1)
}

func TestHeldIsRising(t *testing.T) {
	s := made(t, 64, 5)
	for i := range 64 {
		node := (i * 37) % 64
		front(t, s, i%2, node, api.OK)
		hold(t, s, node, true, api.OK)
		if held := s.Held(); len(held) != i+1 || !slices.IsSorted(held) || !slices.Contains(held, node) {
			t.Errorf("behind %d: %v", node, held)
		}
	}
	lastIs(t, s, 0, 0, false)
	lastIs(t, s, 1, 0, false)
}

func TestAnswersHaveMemoryOfTheirOwn(t *testing.T) {
	s := made(t, 4, 2)
	frontAll(t, s, 0, 0, 1, 2)
	frontAll(t, s, 1, 3)
	hold(t, s, 1, true, api.OK)
	before := told(s, 4)
	for _, list := range [][]int{s.List(0), s.List(1), s.Held()} {
		for i := range list[:cap(list)] {
			list[:cap(list)][i] = 3
		}
	}
	if after := told(s, 4); !same(before, after) {
		t.Errorf("%v, not %v", after, before)
	}
	kept := s.List(0)
	frontAll(t, s, 0, 3, 0)
	if !slices.Equal(kept, []int{2, 1, 0}) {
		t.Errorf("what was told is %v", kept)
	}
}

func TestAskingChangesNothing(t *testing.T) {
	s := made(t, 4, 2)
	frontAll(t, s, 1, 2, 0, 1)
	hold(t, s, 2, true, api.OK)
	before := told(s, 4)
	for range 3 {
		if after := told(s, 4); !same(before, after) {
			t.Errorf("%v, not %v", after, before)
		}
	}
}

// P6.4: what follows.

func TestTheExample(t *testing.T) {
	s := made(t, 3, 1)
	frontAll(t, s, 0, 0, 1, 2)
	listIs(t, s, 0, 2, 1, 0)
	bottomIs(t, s, 0, 0)
	front(t, s, 0, 0, api.OK)
	listIs(t, s, 0, 0, 2, 1)
	bottomIs(t, s, 0, 1)
	hold(t, s, 1, true, api.OK)
	lastIs(t, s, 0, 2, true)
}

func TestAgainAndAgainComesBackInTheOtherOrder(t *testing.T) {
	for _, nodes := range []int{1, 2, 3, 64} {
		s := made(t, nodes, 1)
		for round := range 4 {
			order := s.List(0)
			if round == 0 {
				for node := range nodes {
					order = append(order, node)
				}
			}
			frontAll(t, s, 0, order...)
			slices.Reverse(order)
			listIs(t, s, 0, order...)
		}
	}
}

// draws is a row of numbers that look as if they came by chance, and are the same ones each time.
type draws struct{ state uint64 }

func (d *draws) below(n int) int {
	d.state = d.state*6364136223846793005 + 1442695040888963407
	return int(d.state >> 33 % uint64(n))
}

// plain is a shelf as the chapter's words have it: lists as they are told, and who is held.
type plain struct {
	nodes, bottom int
	lists         [2][]int
	held          map[int]bool
}

func (p *plain) has(node int) bool { return node >= 0 && node < p.nodes }

func (p *plain) where(node int) place {
	for list, nodes := range p.lists {
		if i := slices.Index(nodes, node); i >= 0 {
			return place{list, i >= len(nodes)-p.bottom, true}
		}
	}
	return nowhere
}

func (p *plain) lift(node int) {
	for list, nodes := range p.lists {
		p.lists[list] = slices.DeleteFunc(slices.Clone(nodes), func(n int) bool { return n == node })
	}
}

func (p *plain) front(list, node int) api.Code {
	if list != 0 && list != 1 || !p.has(node) {
		return api.Arg
	}
	p.lift(node)
	p.lists[list] = slices.Insert(p.lists[list], 0, node)
	return api.OK
}

// change drops, or holds, or lets go.
func (p *plain) change(node int, do func()) api.Code {
	switch {
	case !p.has(node):
		return api.Arg
	case !p.where(node).ok:
		return api.NotFound
	}
	do()
	return api.OK
}

func (p *plain) told() (all state) {
	for list, nodes := range p.lists {
		all.lists[list], all.lens[list] = nodes, len(nodes)
		for _, node := range slices.Backward(nodes) {
			if !p.held[node] {
				all.lasts[list] = place{list: node, ok: true}
				break
			}
		}
	}
	for node := range p.nodes {
		all.places = append(all.places, p.where(node))
		if p.held[node] {
			all.held = append(all.held, node)
		}
	}
	return all
}

// step does the same to both, and tells both codes.
func step(d *draws, s *ring.Shelf, p *plain) (got, want api.Code) {
	node := d.below(p.nodes+2) - 1
	if d.below(3) > 0 {
		node = d.below(p.nodes)
	}
	switch kind := d.below(8); {
	case kind < 4:
		list := d.below(2)
		if d.below(16) == 0 {
			list = []int{-1, 2}[list]
		}
		return s.Front(list, node), p.front(list, node)
	case kind < 6:
		return s.Drop(node), p.change(node, func() { p.lift(node); delete(p.held, node) })
	default:
		held := d.below(2) == 0
		return s.Hold(node, held), p.change(node, func() { p.held[node] = held })
	}
}

// followsIs asks for what P6.4 says: a node lies in one list at most, and the bottom has its size, or the whole list.
func followsIs(t *testing.T, s *ring.Shelf, nodes, bottom int) {
	t.Helper()
	lies := make([]int, nodes)
	for list := range 2 {
		low := 0
		for _, node := range s.List(list) {
			lies[node]++
			if _, is, _ := s.Where(node); is {
				low++
			}
		}
		if low != min(bottom, s.Len(list)) {
			t.Errorf("%d of %d lie in the bottom of %d", low, s.Len(list), bottom)
		}
	}
	for node, times := range lies {
		if _, _, ok := s.Where(node); times > 1 || ok != (times == 1) {
			t.Errorf("%d lies in %d lists, %v", node, times, ok)
		}
	}
}

func TestBesideAPlainShelf(t *testing.T) {
	seen := map[api.Code]int{}
	for run := range 120 {
		d := &draws{state: uint64(run)}
		nodes := 1 + d.below(64)
		if run%3 > 0 {
			nodes = 1 + d.below(6)
		}
		bottom := 1 + d.below(nodes)
		s, p := made(t, nodes, bottom), &plain{nodes: nodes, bottom: bottom, held: map[int]bool{}}
		for i := range 300 {
			got, want := step(d, s, p)
			if got != want {
				t.Fatalf("run %d, step %d: %d, not %d", run, i, got, want)
			}
			if a, b := told(s, nodes), p.told(); !same(a, b) {
				t.Fatalf("run %d, step %d: %v, not %v", run, i, a, b)
			}
			followsIs(t, s, nodes, bottom)
			seen[got]++
		}
	}
	for _, code := range []api.Code{api.OK, api.Arg, api.NotFound} {
		if seen[code] < 100 {
			t.Errorf("the code %d came %d times", code, seen[code])
		}
	}
}
