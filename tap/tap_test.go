package tap_test

import (
	"math"
	"slices"
	"testing"

	"forerunner/api"
	"forerunner/tap"
)

func made(t *testing.T, size, life int) *tap.Table {
	t.Helper()
	x, code := tap.New(size, life)
	if code != api.OK || x == nil {
		t.Fatalf("New(%d, %d): %v %d", size, life, x, code)
	}
	return x
}

func look(t *testing.T, x *tap.Table, first, count int, want bool) {
	t.Helper()
	if is, code := x.Look(first, count); is != want || code != api.OK {
		t.Errorf("Look(%d, %d): %v %d, not %v", first, count, is, code, want)
	}
}

// lookAll looks at accesses of one block, none of which is expected.
func lookAll(t *testing.T, x *tap.Table, firsts ...int) {
	t.Helper()
	for _, first := range firsts {
		look(t, x, first, 1, false)
	}
}

func refused(t *testing.T, x *tap.Table, first, count int) {
	t.Helper()
	if is, code := x.Look(first, count); is || code != api.Arg {
		t.Errorf("Look(%d, %d): %v %d, not Arg", first, count, is, code)
	}
}

// listIs asks for all entries: a block and its age, one behind the other.
func listIs(t *testing.T, x *tap.Table, want ...int) {
	t.Helper()
	var got []int
	for _, e := range x.List() {
		got = append(got, e.Next, e.Age)
	}
	if !slices.Equal(got, want) {
		t.Errorf("List: %v, not %v", got, want)
	}
}

// nextsAre asks for the blocks that are expected, the youngest entry's first.
func nextsAre(t *testing.T, x *tap.Table, want ...int) {
	t.Helper()
	var got []int
	for _, e := range x.List() {
		got = append(got, e.Next)
	}
	if !slices.Equal(got, want) {
		t.Errorf("List expects %v, not %v", got, want)
	}
}

// P8.1: a table is made, tells its entries, and forgets them.

func TestNew(t *testing.T) {
	for size := -3; size <= 70; size++ {
		for life := -3; life <= 70; life++ {
			want := api.Arg
			if 1 <= size && size <= 32 && 1 <= life && life <= 64 {
				want = api.OK
			}
			x, code := tap.New(size, life)
			if code != want || (x == nil) != (want != api.OK) {
				t.Errorf("New(%d, %d): %v %d, not %d", size, life, x, code, want)
			}
		}
	}
}

func TestNewOfGreatNumbers(t *testing.T) {
	for _, great := range []int{math.MinInt, math.MinInt + 1, -1 << 32, -1<<32 + 1, 1 << 32, 1<<32 + 1, math.MaxInt} {
		for _, c := range [][2]int{{great, 1}, {1, great}, {32, great}, {great, 64}, {great, great}} {
			if x, code := tap.New(c[0], c[1]); x != nil || code != api.Arg {
				t.Errorf("New(%d, %d): %v %d", c[0], c[1], x, code)
			}
		}
	}
}

func TestAtFirstNothingIsExpected(t *testing.T) {
	for _, c := range [][2]int{{1, 1}, {1, 64}, {32, 1}, {32, 64}} {
		listIs(t, made(t, c[0], c[1]))
		for _, first := range []int{0, 1, 8, api.MaxKey} {
			look(t, made(t, c[0], c[1]), first, 1, false)
		}
	}
}

func TestListTellsTheYoungestFirst(t *testing.T) {
	for range 30 { // whatever the order in which a map is gone through
		x := made(t, 32, 64)
		var want []int
		for i := range 32 {
			first := i * 37 % 32 * 10
			look(t, x, first, 1, false)
			want = append([]int{first + 1}, want...)
		}
		nextsAre(t, x, want...)
		for age, e := range x.List() {
			if e.Age != age {
				t.Errorf("%v has not the age %d", e, age)
			}
		}
	}
}

func TestListTellsMemoryOfItsOwn(t *testing.T) {
	x := made(t, 4, 10)
	lookAll(t, x, 10, 20, 30)
	told := x.List()
	for i := range told[:cap(told)] {
		told[:cap(told)][i] = api.Expect{Next: 5, Age: 9}
	}
	listIs(t, x, 31, 0, 21, 1, 11, 2)
	kept := x.List()
	lookAll(t, x, 40)
	x.Forget()
	if want := []api.Expect{{Next: 31}, {Next: 21, Age: 1}, {Next: 11, Age: 2}}; !slices.Equal(kept, want) {
		t.Errorf("what was told is %v", kept)
	}
}

func TestAskingChangesNothing(t *testing.T) {
	x := made(t, 4, 2)
	lookAll(t, x, 10, 20, 30)
	for range 5 {
		listIs(t, x, 31, 0, 21, 1, 11, 2)
	}
	lookAll(t, x, 40)
	listIs(t, x, 41, 0, 31, 1, 21, 2)
}

func TestForget(t *testing.T) {
	x := made(t, 2, 3)
	x.Forget() // of none
	listIs(t, x)
	lookAll(t, x, 10, 20)
	x.Forget()
	listIs(t, x)
	x.Forget()
	listIs(t, x)
	lookAll(t, x, 11, 21) // neither is expected any more
	listIs(t, x, 22, 0, 12, 1)
}

func TestAForgottenTableIsAsANewOne(t *testing.T) {
	x, other := made(t, 3, 4), made(t, 3, 4)
	lookAll(t, x, 10, 20, 30, 40)
	look(t, x, 31, 1, true)
	x.Forget()
	for i, first := range []int{5, 6, 9, 5, 7, 5, 6, 7, 10, 8, 1, 2} {
		a, _ := x.Look(first, 1+i%3)
		b, _ := other.Look(first, 1+i%3)
		if a != b || !slices.Equal(x.List(), other.List()) {
			t.Fatalf("look %d: %v %v, not %v %v", i, a, x.List(), b, other.List())
		}
	}
}

func TestTablesAreApart(t *testing.T) {
	x, other := made(t, 3, 4), made(t, 3, 4)
	lookAll(t, x, 10)
	listIs(t, other)
	lookAll(t, other, 11, 20)
	listIs(t, x, 11, 0)
	x.Forget()
	listIs(t, other, 21, 0, 12, 1)
}

// P8.2: a look.

func TestTheExample(t *testing.T) {
	x := made(t, 4, 4)
	look(t, x, 10, 2, false)
	listIs(t, x, 12, 0)
	look(t, x, 12, 1, true)
	listIs(t, x)
}

func TestWhatIsNotedIsTheBlockBehindTheAccess(t *testing.T) {
	for _, first := range []int{0, 1, 7, 100, 255, 256, 1 << 19, 1<<20 - 8, 1<<20 - 1, 1 << 20} {
		for count := 1; count <= 8; count++ {
			x := made(t, 1, 1)
			look(t, x, first, count, false)
			listIs(t, x, first+count, 0)
		}
	}
}

func TestOnlyTheBlockItselfIsExpected(t *testing.T) {
	for first := 5; first <= 20; first++ {
		x := made(t, 4, 4)
		look(t, x, 10, 3, false)
		look(t, x, first, 1, first == 13)
	}
}

func TestHowManyAreReadSaysNothingOfWhatIsExpected(t *testing.T) {
	for count := 1; count <= 8; count++ {
		x := made(t, 4, 4)
		lookAll(t, x, 9)
		look(t, x, 10, count, true)
		listIs(t, x)
	}
}

func TestTheFirstAndTheLastBlock(t *testing.T) {
	x := made(t, 4, 4)
	look(t, x, 1<<20-8, 8, false)
	look(t, x, 1<<20, 8, true)
	look(t, x, 0, 1, false)
	look(t, x, 0, 1, false)
	listIs(t, x, 1, 0)
	look(t, x, 1<<20, 1, false)
	refused(t, x, 1<<20+1, 1) // it is noted, but no access begins there
	listIs(t, x, 1<<20+1, 0, 1, 1)
}

func TestNoAccess(t *testing.T) {
	const low, high = math.MinInt, math.MaxInt
	for _, c := range [][2]int{
		{-1, 1}, {-1, 8}, {-8, 8}, {-1 << 32, 1}, {low, 1}, {low, 8},
		{1<<20 + 1, 1}, {1<<20 + 1, 8}, {1 << 21, 1}, {1 << 32, 1}, {high - 7, 8}, {high, 1}, {high, 8},
		{0, 0}, {0, 9}, {11, 0}, {11, -1}, {11, 9}, {11, 1<<32 + 1}, {11, low}, {11, high}, {1 << 20, 0}, {1 << 20, 9},
		{-1, 0}, {1<<20 + 1, 9}, {low, low}, {high, high}, {low, high}, {high, low},
	} {
		x := made(t, 2, 3)
		refused(t, x, c[0], c[1])
		listIs(t, x)
		lookAll(t, x, 10, 20)
		for range 5 {
			refused(t, x, c[0], c[1])
		}
		listIs(t, x, 21, 0, 11, 1) // neither older, nor gone
		look(t, x, 11, 8, true)
		listIs(t, x, 21, 1)
	}
}

func TestEachLookMakesAllOneOlder(t *testing.T) {
	x := made(t, 4, 10)
	lookAll(t, x, 10)
	listIs(t, x, 11, 0)
	lookAll(t, x, 20)
	listIs(t, x, 21, 0, 11, 1)
	look(t, x, 21, 1, true) // one that was expected, too
	listIs(t, x, 11, 2)
	lookAll(t, x, 10) // noted again
	listIs(t, x, 11, 0)
	lookAll(t, x, 30)
	listIs(t, x, 31, 0, 11, 1)
}

func TestWhatIsTooOldGoes(t *testing.T) {
	for life := 1; life <= 64; life++ {
		x := made(t, 32, life)
		lookAll(t, x, 10)
		for age := 1; age <= life; age++ {
			look(t, x, 1000, 1, false) // one entry, noted again and again
			if age == 1 {
				listIs(t, x, 1001, 0, 11, 1)
			} else if age == life {
				listIs(t, x, 1001, 0, 11, life)
			}
		}
		look(t, x, 1000, 1, false)
		listIs(t, x, 1001, 0)
		lookAll(t, x, 11)
	}
}

func TestWhatHasTheAgeOfTheLifeIsExpected(t *testing.T) {
	for life := 1; life <= 64; life++ {
		for _, late := range []bool{false, true} {
			x := made(t, 32, life)
			lookAll(t, x, 10)
			for range life - 1 {
				look(t, x, 1000, 1, false)
			}
			if late {
				look(t, x, 1000, 1, false)
			}
			look(t, x, 11, 1, !late)
		}
	}
}

func TestSeveralAreTooOldOneBehindTheOther(t *testing.T) {
	x := made(t, 5, 2)
	lookAll(t, x, 10, 20, 30)
	listIs(t, x, 31, 0, 21, 1, 11, 2)
	look(t, x, 31, 1, true)
	listIs(t, x, 21, 2)
	lookAll(t, x, 21) // too old at this look, so that it is noted
	listIs(t, x, 22, 0)
}

func TestWhatIsTooOldGoesAheadOfTheOldest(t *testing.T) {
	x := made(t, 2, 1)
	lookAll(t, x, 10, 20)
	listIs(t, x, 21, 0, 11, 1)
	lookAll(t, x, 30) // 11 is too old, so that there is room
	listIs(t, x, 31, 0, 21, 1)
}

func TestTheOldestGoes(t *testing.T) {
	for size := 1; size <= 32; size++ {
		for range 3 { // whatever the order in which a map is gone through
			x := made(t, size, 64)
			var want []int
			for i := range size + 20 {
				first := (i*29 + 1) % 64 * 10
				look(t, x, first, 1, false)
				want = append([]int{first + 1}, want...)
				want = want[:min(len(want), size)]
				nextsAre(t, x, want...)
			}
		}
	}
}

func TestNotedAgainItIsTheYoungest(t *testing.T) {
	x := made(t, 3, 20)
	lookAll(t, x, 10, 20, 30)
	look(t, x, 8, 3, false) // 11 again, by another way
	listIs(t, x, 11, 0, 31, 1, 21, 2)
	lookAll(t, x, 40) // the oldest is 21 now
	listIs(t, x, 41, 0, 11, 1, 31, 2)
	lookAll(t, x, 40, 40)
	listIs(t, x, 41, 0, 11, 3, 31, 4)
}

func TestNotedAgainItTakesNobodysRoom(t *testing.T) {
	for again := range 3 {
		x := made(t, 3, 20)
		lookAll(t, x, 10, 20, 30)
		lookAll(t, x, 10*(again+1))
		if list := x.List(); len(list) != 3 || list[0] != (api.Expect{Next: 10*(again+1) + 1}) {
			t.Errorf("%v", list)
		}
	}
}

func TestNotedAgainItLivesOn(t *testing.T) {
	x := made(t, 3, 2)
	for range 10 {
		lookAll(t, x, 10, 500)
	}
	look(t, x, 11, 1, true)
}

func TestWhatIsExpectedGoesAndNotesNothing(t *testing.T) {
	for expected := range 3 {
		x := made(t, 3, 20)
		lookAll(t, x, 10, 20, 30)
		first := 10*(expected+1) + 1
		look(t, x, first, 4, true)
		var want []int
		for i := 2; i >= 0; i-- {
			if i != expected {
				want = append(want, 10*(i+1)+1, 3-i)
			}
		}
		listIs(t, x, want...)
		look(t, x, first, 4, false) // once only
	}
}

func TestWhatIsExpectedMakesRoom(t *testing.T) {
	x := made(t, 2, 20)
	lookAll(t, x, 10, 20)
	look(t, x, 21, 1, true)
	lookAll(t, x, 30)
	listIs(t, x, 31, 0, 11, 3)
}

func TestAReaderIsExpectedEachSecondTime(t *testing.T) {
	x := made(t, 1, 1)
	for block := range 100 {
		look(t, x, block, 1, block%2 == 1)
	}
}

// P8.3: what follows.

// between is how many looks of others come ahead of the reader's second one, and whether that is expected.
func between(t *testing.T, size, life, others int) bool {
	t.Helper()
	x := made(t, size, life)
	lookAll(t, x, 1, 3, 5) // what was noted before goes ahead of the reader's
	look(t, x, 500, 4, false)
	for i := range others {
		look(t, x, 1000+10*i, 1, false)
	}
	is, code := x.Look(504, 2)
	if code != api.OK {
		t.Errorf("code %d", code)
	}
	return is
}

func TestWhoReadsOnIsExpected(t *testing.T) {
	for _, size := range []int{1, 2, 3, 10, 31, 32} {
		for _, life := range []int{1, 2, 3, 9, 10, 11, 31, 32, 33, 63, 64} {
			for others := range 70 {
				want := others < size && others < life
				if got := between(t, size, life, others); got != want {
					t.Errorf("size %d, life %d, %d others: %v", size, life, others, got)
				}
			}
		}
	}
}

// draws is a row of numbers that look as if they came by chance, and are the same ones each time.
type draws struct{ state uint64 }

func (d *draws) below(n int) int {
	d.state = d.state*6364136223846793005 + 1442695040888963407
	return int(d.state >> 33 % uint64(n))
}

// plain is a table as the chapter's words have it: entries in the order in which they were noted, each with its age.
type plain struct {
	size, life int
	entries    []api.Expect
}

// take takes the entry that expects a block, if there is one.
func (p *plain) take(next int) bool {
	before := len(p.entries)
	p.entries = slices.DeleteFunc(p.entries, func(e api.Expect) bool { return e.Next == next })
	return len(p.entries) < before
}

func (p *plain) look(first, count int) (bool, api.Code) {
	if first < 0 || first > 1048576 || count < 1 || count > 8 {
		return false, api.Arg
	}
	for i := range p.entries {
		p.entries[i].Age++
	}
	p.entries = slices.DeleteFunc(p.entries, func(e api.Expect) bool { return e.Age > p.life })
	if p.take(first) {
		return true, api.OK
	}
	if !p.take(first+count) && len(p.entries) == p.size {
		p.entries = p.entries[1:]
	}
	p.entries = append(p.entries, api.Expect{Next: first + count})
	return false, api.OK
}

func (p *plain) list() []api.Expect {
	entries := slices.Clone(p.entries)
	slices.Reverse(entries)
	return entries
}

// followsIs asks for what P8.3 says of the entries.
func followsIs(t *testing.T, x *tap.Table, size, life int) {
	t.Helper()
	list := x.List()
	ages, nexts := map[int]int{}, map[int]int{}
	for _, e := range list {
		ages[e.Age]++
		nexts[e.Next]++
		if e.Age < 0 || e.Age > life {
			t.Errorf("%v in a table of the life %d", e, life)
		}
	}
	if len(ages) < len(list) || len(nexts) < len(list) || len(list) > size {
		t.Errorf("a table of the size %d: %v", size, list)
	}
}

// outcome is what a look answers.
type outcome struct {
	is   bool
	code api.Code
}

// together looks at both, and holds them against each other.
func together(t *testing.T, run int, seen map[outcome]int) {
	t.Helper()
	d := &draws{state: uint64(run) << 20}
	size, life := 1+d.below(32), 1+d.below(64)
	if run%3 == 0 {
		size, life = 1+d.below(4), 1+d.below(6)
	}
	blocks := 4 + d.below(100)
	x, p := made(t, size, life), &plain{size: size, life: life}
	for i := range 1000 {
		first, count := d.below(blocks+1)-d.below(20)/19, d.below(10)
		if d.below(3) > 0 {
			count = 1 + d.below(2)
		}
		var got, want outcome
		got.is, got.code = x.Look(first, count)
		want.is, want.code = p.look(first, count)
		if got != want {
			t.Fatalf("run %d, look %d, (%d, %d): %v, not %v", run, i, first, count, got, want)
		}
		if d.below(300) == 0 {
			x.Forget()
			p.entries = nil
		}
		if !slices.Equal(x.List(), p.list()) {
			t.Fatalf("run %d, look %d, (%d, %d): %v, not %v", run, i, first, count, x.List(), p.list())
		}
		followsIs(t, x, size, life)
		seen[got]++
	}
}

func TestBesideAPlainTable(t *testing.T) {
	seen := map[outcome]int{}
	for run := range 120 {
		together(t, run, seen)
	}
	for _, want := range []outcome{{code: api.Arg}, {is: true}, {is: false}} {
		if seen[want] < 1000 {
			t.Errorf("%v came %d times", want, seen[want])
		}
	}
}
