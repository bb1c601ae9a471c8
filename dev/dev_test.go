package dev_test

import (
	"math"
	"reflect"
	"slices"
	"testing"

	"forerunner/api"
	"forerunner/dev"
)

func read(tag, first, count int) api.Cmd {
	return api.Cmd{Tag: tag, First: first, Count: count}
}

func write(tag, first int, values ...uint64) api.Cmd {
	return api.Cmd{Tag: tag, Write: true, First: first, Count: len(values), Values: values}
}

// rising are so many numbers, one more each, from one on.
func rising(from uint64, count int) []uint64 {
	l := make([]uint64, count)
	for i := range l {
		l[i] = from + uint64(i)
	}
	return l
}

func made(t *testing.T, blocks int, first ...uint64) *dev.Dev {
	t.Helper()
	d, code := dev.New(blocks, first)
	if code != api.OK || d == nil {
		t.Fatalf("New(%d, %v): %v %d", blocks, first, d, code)
	}
	return d
}

func submit(t *testing.T, d *dev.Dev, l ...api.Cmd) {
	t.Helper()
	for _, c := range l {
		if code := d.Submit(c); code != api.OK {
			t.Fatalf("Submit(%v): %d", c, code)
		}
	}
}

func finish(t *testing.T, d *dev.Dev, tag int, ok bool, code api.Code, values ...uint64) {
	t.Helper()
	if got, gotCode := d.Finish(tag, ok); gotCode != code || !slices.Equal(got, values) {
		t.Fatalf("Finish(%d, %v): %v %d, not %v %d", tag, ok, got, gotCode, values, code)
	}
}

func blocksAre(t *testing.T, d *dev.Dev, want ...uint64) {
	t.Helper()
	if got := d.Blocks(); !slices.Equal(got, want) {
		t.Fatalf("Blocks: %v, not %v", got, want)
	}
}

func sameCmd(a, b api.Cmd) bool {
	values := slices.Equal(a.Values, b.Values)
	a.Values, b.Values = nil, nil
	return values && reflect.DeepEqual(a, b)
}

func outIs(t *testing.T, d *dev.Dev, want ...api.Cmd) {
	t.Helper()
	if got := d.Out(); !slices.EqualFunc(got, want, sameCmd) {
		t.Fatalf("Out: %v, not %v", got, want)
	}
}

func touched(t *testing.T, d *dev.Dev, first, count, reads, writes int) {
	t.Helper()
	if r, w := d.Touched(first, count); r != reads || w != writes {
		t.Fatalf("Touched(%d, %d): %d %d, not %d %d", first, count, r, w, reads, writes)
	}
}

// P3.1: a disk is made.

func TestNew(t *testing.T) {
	for _, c := range []struct {
		blocks, first int
		code          api.Code
	}{
		{1, 0, api.OK},
		{1, 1, api.OK},
		{1, 2, api.Arg},
		{5, 3, api.OK},
		{5, 5, api.OK},
		{5, 6, api.Arg},
		{255, 255, api.OK},
		{256, 0, api.OK},
		{256, 256, api.OK},
		{256, 257, api.Arg},
		{257, 0, api.Arg},
		{257, 257, api.Arg},
		{0, 0, api.Arg},
		{0, 1, api.Arg},
		{-1, 0, api.Arg},
		{math.MinInt, 0, api.Arg},
		{math.MaxInt, 0, api.Arg},
		{math.MaxInt, 3, api.Arg},
	} {
		first := rising(100, c.first)
		d, code := dev.New(c.blocks, first)
		if code != c.code || (d == nil) != (code != api.OK) {
			t.Errorf("New(%d, %d numbers): %v %d, not %d", c.blocks, c.first, d, code, c.code)
			continue
		}
		if !slices.Equal(first, rising(100, c.first)) {
			t.Errorf("New(%d, %d numbers): the numbers were changed", c.blocks, c.first)
		}
		if code != api.OK {
			continue
		}
		blocksAre(t, d, append(first, make([]uint64, c.blocks-c.first)...)...)
		outIs(t, d)
		touched(t, d, 0, c.blocks, 0, 0)
	}
}

func TestNewKeepsNothingOfWhatItIsGiven(t *testing.T) {
	room := []uint64{1, 2, 3, 4}
	d, other := made(t, 4, room[:2]...), made(t, 4, room[:2]...)
	room[0], room[3] = 9, 9
	blocksAre(t, d, 1, 2, 0, 0)
	submit(t, d, write(1, 0, 5, 6, 7, 8))
	finish(t, d, 1, true, api.OK)
	if !slices.Equal(room, []uint64{9, 2, 3, 9}) {
		t.Errorf("what New was given was changed: %v", room)
	}
	blocksAre(t, other, 1, 2, 0, 0)
}

// P3.1: a command is outstanding, or why it isn't.

func TestSubmit(t *testing.T) {
	const low, high = math.MinInt, math.MaxInt
	eight := rising(1, 8)
	for _, c := range []struct {
		name string
		cmd  api.Cmd
		code api.Code
	}{
		{"a read", read(2, 3, 4), api.OK},
		{"a write", write(2, 3, 4, 5), api.OK},
		{"the least tag", read(2, 0, 1), api.OK},
		{"the greatest tag", read(high, 0, 1), api.OK},
		{"tag 0", read(0, 0, 1), api.Arg},
		{"tag -1", read(-1, 0, 1), api.Arg},
		{"the least number as a tag", write(low, 0, 1), api.Arg},
		{"a read of no block", read(2, 0, 0), api.Arg},
		{"a write of no block", write(2, 0), api.Arg},
		{"a read of -1 blocks", read(2, 0, -1), api.Arg},
		{"a write of -1 blocks", api.Cmd{Tag: 2, Write: true, Count: -1}, api.Arg},
		{"a read of 8", read(2, 0, 8), api.OK},
		{"a write of 8", write(2, 2, eight...), api.OK},
		{"a read of 9", read(2, 0, 9), api.Arg},
		{"a write of 9", write(2, 0, rising(1, 9)...), api.Arg},
		{"a read of the least count", read(2, 0, low), api.Arg},
		{"a read of the greatest count", read(2, 0, high), api.Arg},
		{"a write without values", api.Cmd{Tag: 2, Write: true, Count: 1}, api.Arg},
		{"a write of too few values", api.Cmd{Tag: 2, Write: true, Count: 8, Values: eight[:7]}, api.Arg},
		{"a write of too many values", api.Cmd{Tag: 2, Write: true, Count: 7, Values: eight}, api.Arg},
		{"a read with one value", api.Cmd{Tag: 2, Count: 1, Values: []uint64{1}}, api.Arg},
		{"a read with as many values", api.Cmd{Tag: 2, Count: 8, Values: eight}, api.Arg},
		{"a read with an empty list", api.Cmd{Tag: 2, Count: 1, Values: []uint64{}}, api.OK},
		{"a read of the last block", read(2, 9, 1), api.OK},
		{"a read up to the last block", read(2, 2, 8), api.OK},
		{"a read beyond the last block", read(2, 3, 8), api.Range},
		{"a read behind the last block", read(2, 10, 1), api.Range},
		{"a read below the first block", read(2, -1, 1), api.Range},
		{"a read from below the first block on", read(2, -1, 8), api.Range},
		{"a read from the least number on", read(2, low, 8), api.Range},
		{"a read from the greatest number on", read(2, high, 8), api.Range},
		{"a write of the last block", write(2, 9, 1), api.OK},
		{"a write beyond the last block", write(2, 9, 1, 2), api.Range},
		{"a write below the first block", write(2, -1, 1), api.Range},
		{"a read of a tag that is out", read(1, 0, 1), api.Exists},
		{"a write of a tag that is out", write(1, 0, 1), api.Exists},
		{"the same again", read(1, 0, 2), api.Exists},
		{"the same blocks", write(2, 0, 1, 2), api.OK},
	} {
		d := made(t, 10, 7, 8)
		submit(t, d, read(1, 0, 2))
		if got := d.Submit(c.cmd); got != c.code {
			t.Errorf("%s: %d, not %d", c.name, got, c.code)
			continue
		}
		want := []api.Cmd{read(1, 0, 2)}
		if c.code == api.OK {
			want = append(want, c.cmd)
		}
		outIs(t, d, want...)
		blocksAre(t, d, 7, 8, 0, 0, 0, 0, 0, 0, 0, 0)
	}
}

func TestSubmitToTheLeastAndTheGreatestDisk(t *testing.T) {
	for _, c := range []struct {
		blocks int
		cmd    api.Cmd
		code   api.Code
	}{
		{1, read(1, 0, 1), api.OK},
		{1, read(1, 0, 2), api.Range},
		{1, read(1, 0, 8), api.Range}, // greater than the disk
		{1, read(1, -7, 8), api.Range},
		{1, read(1, 1, 1), api.Range},
		{256, read(1, 248, 8), api.OK},
		{256, read(1, 249, 8), api.Range},
		{256, write(1, 255, 3), api.OK},
		{256, write(1, 256, 3), api.Range},
	} {
		if got := made(t, c.blocks).Submit(c.cmd); got != c.code {
			t.Errorf("%v to a disk of %d: %d, not %d", c.cmd, c.blocks, got, c.code)
		}
	}
}

// full is a disk of 20 blocks with 16 outstanding reads, of the tags 1 to 16.
func full(t *testing.T) *dev.Dev {
	t.Helper()
	d := made(t, 20)
	for i := range api.MaxOut {
		submit(t, d, read(i+1, i, 1))
	}
	return d
}

func TestSubmitToAFullDisk(t *testing.T) {
	for _, ok := range []bool{true, false} {
		d := full(t)
		if got := d.Submit(read(17, 0, 1)); got != api.Full {
			t.Fatalf("a read of 17: %d", got)
		}
		if got := d.Submit(write(17, 0, 1)); got != api.Full {
			t.Fatalf("a write of 17: %d", got)
		}
		finishFails(t, d, 18, api.NotFound)
		if got := d.Submit(read(17, 0, 1)); got != api.Full {
			t.Fatalf("a read of 17, behind an ending that wasn't: %d", got)
		}
		if _, code := d.Finish(9, ok); (code == api.OK) != ok {
			t.Fatalf("Finish(9, %v): %d", ok, code)
		}
		submit(t, d, read(17, 0, 1))
		if got := d.Submit(read(18, 0, 1)); got != api.Full {
			t.Fatalf("a read of 18: %d", got)
		}
	}
}

func finishFails(t *testing.T, d *dev.Dev, tag int, code api.Code) {
	t.Helper()
	finish(t, d, tag, true, code)
	finish(t, d, tag, false, code)
}

func TestSubmitTellsTheFirstCode(t *testing.T) {
	for _, c := range []struct {
		name string
		cmd  api.Cmd
		code api.Code
	}{
		{"tag, range, full", read(0, 20, 1), api.Arg},
		{"count, range, exists, full", read(1, 20, 9), api.Arg},
		{"values, range, exists, full", api.Cmd{Tag: 1, First: -1, Count: 1, Values: []uint64{1}}, api.Arg},
		{"values, exists, full", api.Cmd{Tag: 1, Write: true, Count: 2, Values: []uint64{1}}, api.Arg},
		{"values, full", api.Cmd{Tag: 17, Write: true, Count: 2}, api.Arg},
		{"range, exists, full", read(1, 20, 1), api.Range},
		{"range, full", write(17, 19, 1, 2), api.Range},
		{"exists, full", read(1, 0, 1), api.Exists},
		{"full", read(17, 0, 1), api.Full},
	} {
		d := full(t)
		before := d.Out()
		if got := d.Submit(c.cmd); got != c.code {
			t.Errorf("%s: %d, not %d", c.name, got, c.code)
		}
		outIs(t, d, before...)
	}
}

func TestSubmitKeepsNothingOfWhatItIsGiven(t *testing.T) {
	d := made(t, 3)
	room := []uint64{5, 6, 7}
	submit(t, d, write(1, 0, room[:2]...))
	room[0], room[1] = 8, 9
	outIs(t, d, write(1, 0, 5, 6))
	finish(t, d, 1, true, api.OK)
	blocksAre(t, d, 5, 6, 0)
	if !slices.Equal(room, []uint64{8, 9, 7}) {
		t.Errorf("what Submit was given was changed: %v", room)
	}
}

// P3.2: a command is finished.

func TestFinish(t *testing.T) {
	d := made(t, 5, 1, 2, 3, 4, 5)
	submit(t, d, read(7, 1, 3), write(3, 2, 8, 9), write(5, 0, 6), read(4, 0, 5))
	blocksAre(t, d, 1, 2, 3, 4, 5)
	finish(t, d, 5, true, api.OK)
	blocksAre(t, d, 6, 2, 3, 4, 5)
	outIs(t, d, read(7, 1, 3), write(3, 2, 8, 9), read(4, 0, 5))
	finish(t, d, 7, true, api.OK, 2, 3, 4)
	finish(t, d, 3, true, api.OK)
	blocksAre(t, d, 6, 2, 8, 9, 5)
	finish(t, d, 4, true, api.OK, 6, 2, 8, 9, 5)
	blocksAre(t, d, 6, 2, 8, 9, 5)
	outIs(t, d)
}

func TestFinishReadsWhatIsThereNow(t *testing.T) {
	d := made(t, 2, 1, 2)
	submit(t, d, read(1, 0, 2), write(2, 0, 7), read(3, 0, 2), write(4, 0, 8, 9), read(5, 1, 1))
	finish(t, d, 3, true, api.OK, 1, 2)
	finish(t, d, 4, true, api.OK)
	finish(t, d, 1, true, api.OK, 8, 9)
	finish(t, d, 2, true, api.OK) // it was submitted ahead of 4, but takes effect behind it
	blocksAre(t, d, 7, 9)
	finish(t, d, 5, true, api.OK, 9)
}

func TestFinishBadly(t *testing.T) {
	d := made(t, 3, 1, 2, 3)
	submit(t, d, write(1, 0, 8, 9), read(2, 0, 3), write(3, 1, 7))
	finish(t, d, 1, false, api.Failed)
	blocksAre(t, d, 1, 2, 3)
	finish(t, d, 2, false, api.Failed)
	blocksAre(t, d, 1, 2, 3)
	outIs(t, d, write(3, 1, 7))
	finishFails(t, d, 1, api.NotFound)
	finishFails(t, d, 2, api.NotFound)
	finish(t, d, 3, true, api.OK)
	blocksAre(t, d, 1, 7, 3)
}

func TestFinishWhatIsNotOutstanding(t *testing.T) {
	d := made(t, 2, 1, 2)
	for _, tag := range []int{0, 1, -1, math.MinInt, math.MaxInt} {
		finishFails(t, d, tag, api.NotFound)
	}
	submit(t, d, write(1, 0, 5), read(9, 0, 2))
	if code := d.Submit(read(2, 2, 1)); code != api.Range {
		t.Fatal(code)
	}
	for _, tag := range []int{0, 2, -1, 8, 10, math.MinInt, math.MaxInt} {
		finishFails(t, d, tag, api.NotFound)
	}
	outIs(t, d, write(1, 0, 5), read(9, 0, 2))
	blocksAre(t, d, 1, 2)
}

func TestFinishTellsMemoryOfItsOwn(t *testing.T) {
	d := made(t, 4, 1, 2, 3, 4)
	submit(t, d, read(1, 0, 3), read(2, 0, 3))
	l, _ := d.Finish(1, true)
	clear(l)
	_ = append(l, 9)
	blocksAre(t, d, 1, 2, 3, 4)
	other, _ := d.Finish(2, true)
	submit(t, d, write(3, 0, 7, 7, 7))
	finish(t, d, 3, true, api.OK)
	if !slices.Equal(other, []uint64{1, 2, 3}) || !slices.Equal(l, []uint64{0, 0, 0}) {
		t.Errorf("what was told was changed: %v %v", other, l)
	}
}

// P3.3: what is outstanding, and what is there.

func TestOut(t *testing.T) {
	d := made(t, 9)
	outIs(t, d)
	a, b, c := read(5, 0, 2), write(2, 3, 1, 2, 3), read(math.MaxInt, 8, 1)
	submit(t, d, a, b, c)
	outIs(t, d, a, b, c)
	finish(t, d, 2, true, api.OK)
	outIs(t, d, a, c)
	again := read(2, 1, 1) // a tag that is free again stands where it was submitted now
	submit(t, d, again)
	outIs(t, d, a, c, again)
	finish(t, d, 5, false, api.Failed)
	outIs(t, d, c, again)
	first := write(1, 0, 4)
	submit(t, d, first)
	outIs(t, d, c, again, first)
}

func TestOutOfAFullDisk(t *testing.T) {
	d := made(t, 256)
	var want []api.Cmd
	for i := range api.MaxOut {
		c := read(1+i*7%api.MaxOut, i, 1+i%8)
		if i%3 == 0 {
			c = write(1+i*7%api.MaxOut, i, rising(uint64(i), 1+i%8)...)
		}
		submit(t, d, c)
		want = append(want, c)
	}
	for range 50 { // whatever the order in which a map is gone through
		outIs(t, d, want...)
	}
}

func TestOutTellsMemoryOfItsOwn(t *testing.T) {
	d := made(t, 4)
	want := []api.Cmd{write(1, 0, 5, 6), write(2, 2, 7, 8)}
	submit(t, d, want...)
	l := d.Out()
	clear(l[0].Values)
	_ = append(l[0].Values, 9)
	if !sameCmd(l[1], want[1]) {
		t.Errorf("two lists of an answer share memory: %v", l)
	}
	clear(l)
	outIs(t, d, want...)
	finish(t, d, 1, true, api.OK)
	finish(t, d, 2, true, api.OK)
	blocksAre(t, d, 5, 6, 7, 8)
}

func TestBlocksTellsMemoryOfItsOwn(t *testing.T) {
	d := made(t, 3, 1, 2, 3)
	l := d.Blocks()
	clear(l)
	blocksAre(t, d, 1, 2, 3)
	l = d.Blocks()
	submit(t, d, write(1, 0, 9))
	finish(t, d, 1, true, api.OK)
	if !slices.Equal(l, []uint64{1, 2, 3}) {
		t.Errorf("what was told was changed: %v", l)
	}
}

func TestTouched(t *testing.T) {
	const low, high = math.MinInt, math.MaxInt
	d := made(t, 20)
	submit(t, d, read(1, 3, 4), write(2, 5, 1, 2), read(3, 0, 1), read(4, 12, 8), write(5, 19, 1), write(6, 5, 3))
	for _, c := range []struct{ first, count, reads, writes int }{
		{0, 1, 1, 0},
		{1, 1, 0, 0},
		{1, 2, 0, 0}, // up to what 1 reads
		{1, 3, 1, 0},
		{3, 1, 1, 0},
		{4, 1, 1, 0},
		{4, 2, 1, 2},
		{5, 1, 1, 2},
		{6, 1, 1, 1},
		{7, 5, 0, 0}, // between what 1 and 4 read
		{7, 6, 1, 0},
		{6, 6, 1, 1},
		{2, 6, 1, 2}, // around what 1 reads
		{18, 1, 1, 0},
		{18, 2, 1, 1},
		{19, 1, 1, 1},
		{0, 20, 3, 3},
		{0, high, 3, 3},
		{0, 256, 3, 3},
		{19, 5, 1, 1},
		{20, 1, 0, 0},
		{20, high, 0, 0},
		{19, high, 1, 1},
		{6, high, 2, 2},
		{high, 1, 0, 0},
		{high, high, 0, 0},
		{5, 0, 0, 0},
		{5, -1, 0, 0},
		{5, low, 0, 0},
		{0, 0, 0, 0},
		{-1, 1, 0, 0},
		{-1, 2, 0, 0},
		{-1, 20, 0, 0},
		{-1, high, 0, 0},
		{-5, 30, 0, 0},
		{low, high, 0, 0},
		{low, low, 0, 0},
		{high, low, 0, 0},
	} {
		touched(t, d, c.first, c.count, c.reads, c.writes)
	}
	finish(t, d, 2, true, api.OK)
	touched(t, d, 5, 1, 1, 1)
	finish(t, d, 6, false, api.Failed)
	touched(t, d, 5, 1, 1, 0)
	finish(t, d, 1, true, api.OK, 0, 0, 1, 2)
	touched(t, d, 5, 1, 0, 0)
}

// P3.4: what follows.

func TestBlocksChangeButByWritesThatAreFinishedWell(t *testing.T) {
	d := made(t, 2, 1, 2)
	submit(t, d, write(1, 0, 7), write(2, 0, 8, 9), read(3, 0, 2))
	d.Submit(write(1, 0, 5))
	d.Submit(write(4, 1, 5, 5))
	d.Out()
	d.Touched(0, 2)
	finish(t, d, 2, false, api.Failed)
	finish(t, d, 3, true, api.OK, 1, 2)
	finishFails(t, d, 4, api.NotFound)
	blocksAre(t, d, 1, 2)
	finish(t, d, 1, true, api.OK)
	blocksAre(t, d, 7, 2)
}

func TestWhatIsFinishedNeverComesBack(t *testing.T) {
	for _, ok := range []bool{true, false} {
		d := made(t, 2, 1, 2)
		submit(t, d, write(1, 0, 7), write(2, 1, 8))
		d.Finish(1, ok)
		finishFails(t, d, 1, api.NotFound)
		outIs(t, d, write(2, 1, 8))
		touched(t, d, 0, 1, 0, 0)
		submit(t, d, read(1, 0, 1)) // another one of its tag is another one
		outIs(t, d, write(2, 1, 8), read(1, 0, 1))
		touched(t, d, 0, 1, 1, 0)
		finish(t, d, 1, true, api.OK, d.Blocks()[0])
		finishFails(t, d, 1, api.NotFound)
	}
}

func TestDisksAreApart(t *testing.T) {
	d, other := made(t, 2, 1, 2), made(t, 2, 3, 4)
	submit(t, d, write(1, 0, 7))
	outIs(t, other)
	finishFails(t, other, 1, api.NotFound)
	submit(t, other, write(1, 0, 8))
	finish(t, d, 1, true, api.OK)
	outIs(t, other, write(1, 0, 8))
	blocksAre(t, d, 7, 2)
	blocksAre(t, other, 3, 4)
}

// P3.1 to P3.4: any commands, the same ones in each run, beside a plain list of what is outstanding.

type plain struct {
	blocks []uint64
	out    []api.Cmd
}

// has: whether a command has a block, told block by block.
func has(c api.Cmd, block int) bool {
	for i := range c.Count {
		if c.First+i == block {
			return true
		}
	}
	return false
}

func (p *plain) find(tag int) int {
	return slices.IndexFunc(p.out, func(c api.Cmd) bool { return c.Tag == tag })
}

func (p *plain) submit(c api.Cmd) api.Code {
	if c.Tag < 1 || c.Count < 1 || c.Count > 8 {
		return api.Arg
	}
	if c.Write && len(c.Values) != c.Count || !c.Write && len(c.Values) != 0 {
		return api.Arg
	}
	for i := range c.Count {
		if block := c.First + i; block < 0 || block >= len(p.blocks) {
			return api.Range
		}
	}
	if p.find(c.Tag) >= 0 {
		return api.Exists
	}
	if len(p.out) == 16 {
		return api.Full
	}
	p.out = append(p.out, c)
	return api.OK
}

func (p *plain) finish(tag int, ok bool) (values []uint64, code api.Code) {
	at := p.find(tag)
	if at < 0 {
		return nil, api.NotFound
	}
	c := p.out[at]
	p.out = slices.Delete(slices.Clone(p.out), at, at+1)
	if !ok {
		return nil, api.Failed
	}
	for i := range c.Count {
		if c.Write {
			p.blocks[c.First+i] = c.Values[i]
		} else {
			values = append(values, p.blocks[c.First+i])
		}
	}
	return values, api.OK
}

func (p *plain) touched(first, count int) (reads, writes int) {
	if first < 0 {
		return 0, 0
	}
	for _, c := range p.out {
		for i := range count {
			if !has(c, first+i) {
				continue
			}
			if c.Write {
				writes++
			} else {
				reads++
			}
			break
		}
	}
	return reads, writes
}

func (p *plain) same(t *testing.T, d *dev.Dev) {
	t.Helper()
	outIs(t, d, p.out...)
	blocksAre(t, d, p.blocks...)
}

func TestAnyCommands(t *testing.T) {
	state := uint64(1)
	// below is a number from 0 to n - 1.
	below := func(n int) int {
		state = state*6364136223846793005 + 1442695040888963407
		return int((state ^ state>>29) >> 33 % uint64(n))
	}
	// anyCmd is mostly one that may be.
	anyCmd := func(blocks int) api.Cmd {
		c := api.Cmd{Tag: below(24), Write: below(2) == 0, First: below(blocks+2) - 1, Count: below(10)}
		if c.Write {
			c.Values = rising(state, c.Count)
		}
		if below(20) == 0 {
			c.Values = append(c.Values, 1)
		}
		return c
	}
	submits, endings := map[api.Code]int{}, map[api.Code]int{}
	for _, blocks := range []int{1, 2, 7, 8, 9, 20, 255, 256} {
		first := rising(1000, below(blocks+1))
		d, p := made(t, blocks, first...), &plain{blocks: append(first, make([]uint64, blocks-len(first))...)}
		for range 4000 {
			if c := anyCmd(blocks); below(3) > 0 {
				got, want := d.Submit(c), p.submit(c)
				if got != want {
					t.Fatalf("Submit(%v) to a disk of %d, with %v: %d, not %d", c, blocks, p.out, got, want)
				}
				submits[got]++
			} else {
				ok := below(4) > 0
				values, code := p.finish(c.Tag, ok)
				finish(t, d, c.Tag, ok, code, values...)
				endings[code]++
			}
			p.same(t, d)
			from, count := below(blocks+4)-2, below(12)-1
			reads, writes := p.touched(from, max(count, 0))
			touched(t, d, from, count, reads, writes)
		}
	}
	for _, code := range []api.Code{api.OK, api.Arg, api.Range, api.Exists, api.Full} {
		if submits[code] == 0 {
			t.Errorf("no Submit came to %d: the test tells nothing of it", code)
		}
	}
	for _, code := range []api.Code{api.OK, api.Failed, api.NotFound} {
		if endings[code] == 0 {
			t.Errorf("no Finish came to %d: the test tells nothing of it", code)
		}
	}
}
