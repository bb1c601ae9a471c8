package ask_test

import (
	"math"
	"slices"
	"testing"

	"forerunner/api"
	"forerunner/ask"
)

// greats are numbers that are no bound's neighbours, but may come to one by a sum, a difference, or by their lowest bits.
var greats = []int{math.MinInt, math.MinInt + 1, -1 << 32, -1<<32 + 1, 1 << 32, 1<<32 + 1, math.MaxInt - 1, math.MaxInt}

// option is an option, where it lies, and what it may be at least and at most, whatever the others are.
type option struct {
	name     string
	in       func(o *api.Options) *int
	least    int
	greatest int
}

func options() []option {
	return []option{
		{"Blocks", func(o *api.Options) *int { return &o.Blocks }, 1, 256},
		{"Frames", func(o *api.Options) *int { return &o.Frames }, 1, 64},
		{"Bottom", func(o *api.Options) *int { return &o.Bottom }, 1, 64},
		{"Demand", func(o *api.Options) *int { return &o.Demand }, 1, 64},
		{"Ahead", func(o *api.Options) *int { return &o.Ahead }, 0, 64},
		{"Out", func(o *api.Options) *int { return &o.Out }, 1, 16},
		{"Span", func(o *api.Options) *int { return &o.Span }, 1, 8},
		{"Tries", func(o *api.Options) *int { return &o.Tries }, 1, 8},
		{"Requests", func(o *api.Options) *int { return &o.Requests }, 1, 16},
		{"Waiters", func(o *api.Options) *int { return &o.Waiters }, 1, 64},
		{"Streams", func(o *api.Options) *int { return &o.Streams }, 1, 16},
		{"Table", func(o *api.Options) *int { return &o.Table }, 1, 32},
		{"Life", func(o *api.Options) *int { return &o.Life }, 1, 64},
		{"Degree", func(o *api.Options) *int { return &o.Degree }, 1, 16},
	}
}

// least and greatest are options each of which is the least, or the greatest, that it may be.

func least() (o api.Options) {
	for _, p := range options() {
		*p.in(&o) = p.least
	}
	return o
}

func greatest() (o api.Options) {
	for _, p := range options() {
		*p.in(&o) = p.greatest
	}
	return o
}

// plainOptions goes through the options as the chapter names them.
func plainOptions(o api.Options) api.Code {
	for _, p := range options() {
		if n := *p.in(&o); n < p.least || n > p.greatest {
			return api.Arg
		}
	}
	if o.Bottom > o.Frames {
		return api.Arg
	}
	return api.OK
}

func optionsIs(t *testing.T, o api.Options, want api.Code) {
	t.Helper()
	if code := ask.Options(o); code != want {
		t.Errorf("Options(%+v): %d, not %d", o, code, want)
	}
}

func usual(t *testing.T, blocks int) api.Options {
	t.Helper()
	o, code := ask.Usual(blocks)
	if code != api.OK {
		t.Fatalf("Usual(%d): %d", blocks, code)
	}
	return o
}

func opIs(t *testing.T, blocks int, op api.Op, want api.Code) {
	t.Helper()
	if code := ask.Op(blocks, op); code != want {
		t.Errorf("Op(%d, %+v): %d, not %d", blocks, op, code, want)
	}
}

func runIs(t *testing.T, op api.Op, want api.Run) {
	t.Helper()
	if r := ask.Run(op); r != want {
		t.Errorf("Run(%+v): %v, not %v", op, r, want)
	}
}

func of(first, count int) api.Run { return api.Run{First: first, Count: count} }

func read(id, first, count int) api.Op {
	return api.Op{Kind: 1, ID: id, First: first, Count: count}
}

func write(id, first, values int) api.Op {
	return api.Op{Kind: 2, ID: id, First: first, Values: make([]uint64, values)}
}

func drop(first, count int) api.Op { return api.Op{Kind: 3, First: first, Count: count} }

func cancel(id int) api.Op { return api.Op{Kind: 4, ID: id} }

func finish(id int, well bool) api.Op { return api.Op{Kind: 5, ID: id, Well: well} }

// oneOfEach is operations of each kind that may be, of a disk of ten blocks, with the blocks that they are for.
func oneOfEach() (ops []api.Op, runs []api.Run) {
	return []api.Op{read(1, 7, 3), write(2, 2, 8), drop(0, 1), cancel(3), finish(4, true), finish(4, false)},
		[]api.Run{of(7, 3), of(2, 8), of(0, 1), {}, {}, {}}
}

// P15.1: what options may be, and the usual ones.

func TestEachOption(t *testing.T) {
	numbers := slices.Clone(greats)
	for n := -5; n <= 600; n++ {
		numbers = append(numbers, n)
	}
	for _, base := range []api.Options{least(), greatest()} {
		for _, p := range options() {
			for _, n := range numbers {
				o := base
				*p.in(&o) = n
				want := api.Arg
				if p.least <= n && n <= p.greatest && o.Bottom <= o.Frames {
					want = api.OK
				}
				if code := ask.Options(o); code != want {
					t.Errorf("%s %d: %d, not %d", p.name, n, code, want)
				}
			}
		}
	}
}

func TestBottomIsOfTheFrames(t *testing.T) {
	for frames := -2; frames <= 70; frames++ {
		for bottom := -2; bottom <= 70; bottom++ {
			o := usual(t, 20)
			o.Frames, o.Bottom = frames, bottom
			want := api.Arg
			if 1 <= bottom && bottom <= frames && frames <= 64 {
				want = api.OK
			}
			optionsIs(t, o, want)
		}
	}
}

func TestWhereOptionsEnd(t *testing.T) {
	optionsIs(t, least(), api.OK)
	optionsIs(t, greatest(), api.OK)
	optionsIs(t, api.Options{}, api.Arg)
	for _, p := range options() {
		for _, q := range options() { // with two that may not be, or the same one
			o := greatest()
			*p.in(&o), *q.in(&o) = p.greatest+1, q.least-1
			optionsIs(t, o, api.Arg)
		}
	}
}

func TestUsual(t *testing.T) {
	for blocks := -300; blocks <= 600; blocks++ {
		want, wants := api.Options{}, api.Arg
		if 1 <= blocks && blocks <= 256 {
			wants = api.OK
			want = api.Options{
				Blocks: blocks, Frames: 8, Bottom: 2, Demand: 16, Ahead: 8, Out: 4, Span: 4, Tries: 3,
				Requests: 8, Waiters: 32, Streams: 4, Table: 8, Life: 16, Degree: 4,
			}
		}
		if o, code := ask.Usual(blocks); o != want || code != wants {
			t.Errorf("Usual(%d): %+v %d, not %d", blocks, o, code, wants)
		}
	}
	for _, blocks := range greats {
		if o, code := ask.Usual(blocks); o != (api.Options{}) || code != api.Arg {
			t.Errorf("Usual(%d): %+v %d", blocks, o, code)
		}
	}
}

// P15.2: what operations may be.

func TestOp(t *testing.T) {
	ops, _ := oneOfEach()
	for _, op := range ops {
		opIs(t, 10, op, api.OK)
	}
	for _, id := range []int{1, 2, 16, 17, 1 << 20, 1<<32 - 1, 1 << 32, 1<<32 + 1, math.MaxInt} { // IDs have no end
		for _, op := range ops {
			if op.Kind != 3 {
				op.ID = id
				opIs(t, 10, op, api.OK)
			}
		}
	}
}

func TestOpHasNoKind(t *testing.T) {
	ops, _ := oneOfEach()
	for _, kind := range append([]int{-5, -1, 0, 6, 7, 8, 1<<32 + 2, -1<<32 + 3}, greats...) {
		for _, op := range append(ops, api.Op{}) {
			op.Kind = kind
			opIs(t, 10, op, api.Arg)
			runIs(t, op, api.Run{})
		}
	}
}

func TestOpIsOfADisk(t *testing.T) {
	ops, _ := oneOfEach()
	for _, op := range ops {
		for blocks := -300; blocks <= 600; blocks++ {
			want := api.OK
			switch {
			case blocks < 1 || blocks > 256:
				want = api.Arg
			case op.Kind <= 2 && blocks < 10:
				want = api.Range
			}
			opIs(t, blocks, op, want)
		}
		for _, blocks := range greats {
			opIs(t, blocks, op, api.Arg)
		}
	}
}

func TestOpHasNotWhatItsKindHas(t *testing.T) {
	for _, id := range []int{math.MinInt, -1 << 32, -1<<32 + 1, -2, -1, 0} {
		for _, op := range []api.Op{read(id, 0, 3), write(id, 0, 3), cancel(id), finish(id, true), finish(id, false)} {
			opIs(t, 10, op, api.Arg)
			runIs(t, op, api.Run{})
		}
	}
	for _, count := range append([]int{-8, -1, 0, 9, 10, 16}, greats...) {
		for _, op := range []api.Op{read(1, 0, count), drop(0, count), read(1, 9, count), drop(-1, count)} {
			opIs(t, 256, op, api.Arg)
			runIs(t, op, api.Run{})
		}
	}
	for _, count := range []int{0, 9, 10, 16, 256, 257, 264} {
		opIs(t, 256, write(1, 0, count), api.Arg)
		runIs(t, write(1, 0, count), api.Run{})
	}
	opIs(t, 10, api.Op{Kind: 2, ID: 1}, api.Arg)
}

func TestOpHasWhatItsKindHasNot(t *testing.T) {
	for _, n := range append([]int{-1, 1, 2, 3, 8}, greats...) {
		for _, op := range []api.Op{
			{Kind: 2, ID: 1, Values: make([]uint64, 3), Count: n},
			{Kind: 3, ID: n, Count: 3},
			{Kind: 4, ID: 1, First: n},
			{Kind: 4, ID: 1, Count: n},
			{Kind: 5, ID: 1, First: n, Well: true},
			{Kind: 5, ID: 1, Count: n},
		} {
			opIs(t, 10, op, api.Arg)
			runIs(t, op, api.Run{})
		}
	}
	ops, _ := oneOfEach()
	for _, op := range ops {
		if op.Kind != 2 {
			valued := op
			valued.Values = []uint64{0}
			opIs(t, 10, valued, api.Arg)
			runIs(t, valued, api.Run{})
		}
		if op.Kind != 5 {
			op.Well = true
			opIs(t, 10, op, api.Arg)
			runIs(t, op, api.Run{})
		}
	}
}

// A list without elements may be nil or empty.
func TestOpWithAnEmptyList(t *testing.T) {
	ops, runs := oneOfEach()
	for i, op := range ops {
		if op.Kind == 2 {
			op.Values = []uint64{}
			opIs(t, 10, op, api.Arg)
			runIs(t, op, api.Run{})
			continue
		}
		op.Values = make([]uint64, 0, 8)
		opIs(t, 10, op, api.OK)
		runIs(t, op, runs[i])
	}
}

func TestOpBeyondTheDisksEnds(t *testing.T) {
	for _, blocks := range []int{1, 2, 7, 8, 9, 10, 255, 256} {
		for count := 1; count <= 8; count++ {
			for _, first := range append([]int{-9, -8, -count, -1, 0, 1, blocks - count - 1, blocks - count, blocks - count + 1, blocks - 1, blocks, blocks + 1, 256}, greats...) {
				want := api.Range
				if 0 <= first && first < 256 && first+count <= blocks {
					want = api.OK
				}
				opIs(t, blocks, read(1, first, count), want)
				opIs(t, blocks, write(1, first, count), want)
				opIs(t, blocks, drop(first, count), want)
			}
		}
	}
}

func TestOpIsRefusedByTheCodeThatIsNamedFirst(t *testing.T) {
	for _, op := range []api.Op{
		read(0, -1, 3), read(1, 8, 9), read(1, 10, 0), {Kind: 1, ID: 1, First: 10, Count: 1, Well: true}, {Kind: 1, ID: 1, First: -1, Count: 1, Values: []uint64{1}},
		write(0, -1, 3), write(1, 8, 9), write(1, 10, 0), {Kind: 2, ID: 1, First: 10, Values: []uint64{1}, Count: 1}, {Kind: 2, ID: 1, First: 10, Values: []uint64{1}, Well: true},
		drop(8, 9), drop(-1, 0), {Kind: 3, ID: 1, First: 10, Count: 1}, {Kind: 3, First: 10, Count: 1, Well: true},
		{Kind: 4, ID: 1, First: 10}, {Kind: 5, ID: 1, First: -1}, {Kind: 0, ID: 1, First: 10, Count: 1}, {Kind: 6, ID: 1, First: 10, Count: 1},
	} {
		opIs(t, 10, op, api.Arg)
	}
	for _, blocks := range []int{0, -1, 257} {
		opIs(t, blocks, read(1, -1, 3), api.Arg)
		opIs(t, blocks, write(1, 257, 1), api.Arg)
		opIs(t, blocks, drop(300, 8), api.Arg)
	}
}

// P15.3: the blocks that an operation is for.

func TestRun(t *testing.T) {
	ops, runs := oneOfEach()
	for i, op := range ops {
		runIs(t, op, runs[i])
	}
	for count := 1; count <= 8; count++ {
		for _, first := range append([]int{-9, -1, 0, 1, 100, 255 - count, 256 - count, 257 - count, 255, 256, 257}, greats...) {
			want := api.Run{}
			if 0 <= first && first < 256 && first+count <= 256 {
				want = of(first, count)
			}
			runIs(t, read(1, first, count), want)
			runIs(t, write(math.MaxInt, first, count), want)
			runIs(t, drop(first, count), want)
		}
	}
}

// Every operation of few numbers is held against the chapter's words.
func TestOpAndRunPlain(t *testing.T) {
	values := []uint64{1, 2, 3, 4, 5, 6, 7, 8, 9, 10}
	var codes [10]int
	all(func(op api.Op) {
		for _, blocks := range []int{0, 1, 8, 9, 256, 257} {
			want := plainOp(blocks, op)
			if code := ask.Op(blocks, op); code != want {
				t.Fatalf("Op(%d, %+v): %d, not %d", blocks, op, code, want)
			}
			codes[want]++
		}
		want := api.Run{}
		if op.Kind <= 3 && plainOp(256, op) == api.OK {
			want = of(op.First, max(op.Count, len(op.Values)))
		}
		if r := ask.Run(op); r != want {
			t.Fatalf("Run(%+v): %v, not %v", op, r, want)
		}
	}, values)
	for _, code := range []api.Code{api.OK, api.Arg, api.Range} {
		if codes[code] < 100 {
			t.Errorf("code %d came %d times alone", code, codes[code])
		}
	}
}

// all does something with all operations that there are of some numbers.
func all(do func(op api.Op), values []uint64) {
	for kind := -1; kind <= 7; kind++ {
		for _, id := range []int{math.MinInt, -1, 0, 1, 2, math.MaxInt} {
			for _, first := range []int{math.MinInt, -8, -1, 0, 1, 2, 248, 249, 255, 256, math.MaxInt} {
				for _, count := range []int{math.MinInt, -1, 0, 1, 2, 7, 8, 9, math.MaxInt} {
					for _, most := range []int{0, 1, 2, 7, 8, 9} {
						op := api.Op{Kind: kind, ID: id, First: first, Count: count, Values: values[:most]}
						do(op)
						op.Well = true
						do(op)
					}
				}
			}
		}
	}
}

// parts are what operations of each kind have.
type parts struct{ id, run, values, well bool }

var kinds = map[int]parts{
	1: {id: true, run: true},
	2: {id: true, run: true, values: true},
	3: {run: true},
	4: {id: true},
	5: {id: true, well: true},
}

// plainOp asks of each part whether the operation's kind has it.
func plainOp(blocks int, op api.Op) api.Code {
	has, is := kinds[op.Kind]
	count := op.Count
	if has.values {
		count = len(op.Values)
	}
	switch {
	case blocks < 1 || blocks > 256 || !is:
		return api.Arg
	case has.id && op.ID < 1 || !has.id && op.ID != 0:
		return api.Arg
	case has.values && op.Count != 0 || !has.values && len(op.Values) > 0:
		return api.Arg
	case has.run && (count < 1 || count > 8) || !has.run && (count != 0 || op.First != 0):
		return api.Arg
	case !has.well && op.Well:
		return api.Arg
	}
	for i := range count {
		if op.First < -300 || op.First > 300 || op.First+i < 0 || op.First+i >= blocks {
			return api.Range
		}
	}
	return api.OK
}

// P15.4: what follows.

func TestTheUsualOptionsMayBe(t *testing.T) {
	for blocks := 1; blocks <= 256; blocks++ {
		optionsIs(t, usual(t, blocks), api.OK)
	}
}

// What may be of a disk may be of a greater one: of operations, each disk from the least one on that has their blocks.
func TestWhatMayBeOfADiskMayBeOfAGreaterOne(t *testing.T) {
	for _, op := range []api.Op{
		read(1, 0, 1), read(1, 0, 8), read(9, 5, 3), read(1, 248, 8), read(1, 255, 1), write(1, 0, 1), write(1, 0, 8), write(7, 100, 2), write(1, 255, 1),
		drop(0, 1), drop(0, 8), drop(254, 2), cancel(1), finish(1, true), finish(1, false),
	} {
		needs := 1
		if op.Kind <= 3 {
			needs = op.First + max(op.Count, len(op.Values))
		}
		for blocks := 1; blocks <= 256; blocks++ {
			want := api.OK
			if blocks < needs {
				want = api.Range
			}
			opIs(t, blocks, op, want)
		}
	}
	d := &draws{state: 15}
	for range 20000 {
		o := d.options()
		code := ask.Options(o)
		if want := plainOptions(o); code != want {
			t.Fatalf("Options(%+v): %d, not %d", o, code, want)
		}
		for o.Blocks < 256 && code == api.OK {
			o.Blocks++
			optionsIs(t, o, api.OK)
		}
	}
}

// What is handed in isn't changed, its spare room neither.
func TestNothingIsChanged(t *testing.T) {
	values := []uint64{1, 2, 3, 4, 5, 6, 7, 8, 9, 10, 11}
	was := slices.Clone(values)
	for most := range values {
		for kind := range 7 {
			op := api.Op{Kind: kind, ID: 1, Values: values[:most]}
			ask.Op(10, op)
			ask.Run(op)
		}
	}
	if !slices.Equal(values, was) {
		t.Errorf("values that were handed in are changed: %v", values)
	}
}

// The same comes to the same, whatever was asked between.
func TestNothingIsKept(t *testing.T) {
	ops, runs := oneOfEach()
	for range 3 {
		for i, op := range ops {
			opIs(t, 10, op, api.OK)
			opIs(t, 0, op, api.Arg)
			runIs(t, op, runs[i])
			o := usual(t, 10)
			o.Frames = 1
			optionsIs(t, o, api.Arg)
			optionsIs(t, usual(t, 10), api.OK)
		}
	}
}

func TestTheExample(t *testing.T) {
	opIs(t, 10, api.Op{Kind: api.OpRead, ID: 1, First: 7, Count: 3}, api.OK)
	opIs(t, 10, api.Op{Kind: api.OpRead, ID: 1, First: 8, Count: 3}, api.Range)
	opIs(t, 10, api.Op{Kind: api.OpRead, ID: 1, First: 7, Count: 3, Well: true}, api.Arg)
}

// draws are numbers drawn one after the other, the same in each run of the tests.
type draws struct{ state uint64 }

func (d *draws) below(n int) int {
	d.state = d.state*6364136223846793005 + 1442695040888963407
	return int(d.state >> 33 % uint64(n))
}

// options draws options most of which may be; of some of them, one lies just beyond its end.
func (d *draws) options() (o api.Options) {
	all := options()
	for _, p := range all {
		*p.in(&o) = p.least + d.below(p.greatest-p.least+1)
	}
	if d.below(4) > 0 {
		o.Bottom = 1 + d.below(o.Frames)
	}
	p := all[d.below(len(all))]
	switch d.below(6) {
	case 0:
		*p.in(&o) = p.least - 1
	case 1:
		*p.in(&o) = p.greatest + 1
	}
	return o
}
