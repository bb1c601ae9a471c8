package cache_test

import (
	"fmt"
	"slices"
	"testing"

	"forerunner/api"
	"forerunner/ask"
	"forerunner/cache"
	"forerunner/replay"
	"forerunner/tally"
)

// P20.4: what follows; P20.3: the trace tells the policy, and the streams.

// noted is a write of a block that was accepted: its value, and whether it took effect.
type noted struct {
	value  uint64
	effect bool
}

// want is a request that is pending: its operation, and how many writes of each of its blocks were accepted ahead of it.
type want struct {
	op    api.Op
	ahead []int
}

// ledger is what a history comes to: what the disk had at first, all writes of each block, and what is pending.
type ledger struct {
	t       *testing.T
	first   []uint64
	writes  map[int][]noted
	pending map[int]want
}

func newLedger(t *testing.T, blocks int, first []uint64) *ledger {
	all := make([]uint64, blocks)
	copy(all, first)
	return &ledger{t: t, first: all, writes: map[int][]noted{}, pending: map[int]want{}}
}

// ends notes what takes effect by the end of a command, ahead of that.
func (l *ledger) ends(op api.Op, out []api.Cmd) {
	if ask.Op(len(l.first), op) != api.OK || op.Kind != api.OpFinish || !op.Well {
		return
	}
	for _, cmd := range out {
		if cmd.Tag != op.ID || !cmd.Write {
			continue
		}
		for at, v := range cmd.Values {
			all := l.writes[cmd.First+at]
			i := slices.IndexFunc(all, func(n noted) bool { return n.value == v })
			if i < 0 || all[i].effect {
				l.t.Fatalf("command %+v: nobody writes %d, or it was written", cmd, v)
			}
			all[i].effect = true
		}
	}
}

// begins notes a request that was accepted.
func (l *ledger) begins(op api.Op) {
	w := want{op: op}
	for at, v := range op.Values {
		l.writes[op.First+at] = append(l.writes[op.First+at], noted{value: v})
	}
	for at := range op.Count {
		w.ahead = append(w.ahead, len(l.writes[op.First+at]))
	}
	l.pending[op.ID] = w
}

// told is what a read of a block is to be told, behind so many writes of it.
func (l *ledger) told(block, ahead int) uint64 {
	for i := ahead - 1; i >= 0; i-- {
		if l.writes[block][i].effect {
			return l.writes[block][i].value
		}
	}
	return l.first[block]
}

// answered tells that an answer is one of a request that is pending, and right.
func (l *ledger) answered(op api.Op, a api.Answer) {
	w, pending := l.pending[a.ID]
	if !pending {
		l.t.Fatalf("%+v: %+v answers nobody", op, a)
	}
	delete(l.pending, a.ID)
	isCancelled := op.Kind == api.OpCancel && op.ID == a.ID
	switch {
	case (a.Code == api.Cancelled) != isCancelled:
		l.t.Fatalf("%+v: %+v", op, a)
	case a.Code == api.OK && w.op.Kind == api.OpRead:
		for at, v := range a.Values {
			if want := l.told(w.op.First+at, w.ahead[at]); v != want {
				l.t.Fatalf("%+v: request %+v is told %d of its %d, not %d", op, w.op, v, at, want)
			}
		}
		if len(a.Values) != w.op.Count {
			l.t.Fatalf("%+v: request %+v: %+v", op, w.op, a)
		}
	case len(a.Values) > 0 || a.Code != api.OK && a.Code != api.Failed && a.Code != api.Cancelled:
		l.t.Fatalf("%+v: request %+v: %+v", op, w.op, a)
	}
}

// does is what a step comes to, which is noted.
func (l *ledger) does(c *cache.Cache, op api.Op) api.Code {
	l.t.Helper()
	l.ends(op, c.Out())
	code, answers := c.Step(op)
	if code == api.OK && (op.Kind == api.OpRead || op.Kind == api.OpWrite) {
		l.begins(op)
	}
	for _, a := range answers {
		l.answered(op, a)
	}
	if len(c.Pending()) != len(l.pending) {
		l.t.Fatalf("%+v: %v are pending, not %v", op, c.Pending(), l.pending)
	}
	return code
}

// apart tells that no block is in two commands, that nothing is above what it may be, and that all adds up.
func apart(t *testing.T, c *cache.Cache, o api.Options) {
	t.Helper()
	has := map[int]bool{}
	for _, cmd := range c.Out() {
		for block := cmd.First; block < cmd.First+cmd.Count; block++ {
			if has[block] {
				t.Fatalf("block %d is in two commands: %+v", block, c.Out())
			}
			has[block] = true
		}
		if cmd.Count > o.Span {
			t.Fatalf("more than a span: %+v", cmd)
		}
	}
	l, p := c.Load(), c.Policy()
	f := l.Frames
	if l.Out > o.Out || l.Out != len(c.Out()) || l.Pending > o.Requests || l.Waiters > o.Waiters || l.Demand > o.Demand || l.Ahead > o.Ahead ||
		l.Tickets != l.Demand+l.Ahead || f[0]+f[1]+f[2]+f[3] != o.Frames || l.Flight != l.Ahead {
		t.Fatalf("Load: %+v, of %+v", l, o)
	}
	if len(p.Held) != f[api.Filling] || len(p.Lists[0])+len(p.Lists[1]) != f[api.Filling]+f[api.Valid] || p.Want < 0 || p.Want > o.Frames {
		t.Fatalf("Policy: %+v, of %+v", p, l)
	}
	cached := 0
	for block := range o.Blocks {
		if _, valid := c.Cached(block); valid {
			cached++
		}
	}
	if cached != f[api.Valid] {
		t.Fatalf("%d blocks are cached: %+v", cached, l)
	}
	if demand, ahead := tally.Sound(c.Tally(), uint64(l.Resident), uint64(l.Flight)); !demand || !ahead {
		t.Fatalf("it doesn't add up: %+v, %+v", c.Tally(), l)
	}
}

// beside lets the events that came lately happen to a model, and tells that it comes to the same.
func beside(t *testing.T, m *replay.Model, c *cache.Cache, from int) int {
	t.Helper()
	trace := c.Trace()
	for at, ev := range trace[from:] {
		if m.Step(ev) != api.OK {
			t.Fatalf("event %d can't be: %+v", from+at, ev)
		}
	}
	if got, want := fmt.Sprint(c.Policy(), c.Streams()), fmt.Sprint(m.Policy(), m.Streams()); got != want {
		t.Fatalf("%s, not %s", got, want)
	}
	return len(trace)
}

// settled finishes commands till none is outstanding, by the same draws well or not, and tells that that takes no longer than it may.
func settled(t *testing.T, d *draws, l *ledger, c *cache.Cache, o api.Options) {
	t.Helper()
	load := c.Load()
	most := o.Tries*load.Waiters + load.Loose
	failures := d.below(5)
	for ends := 0; len(c.Out()) > 0; ends++ {
		if ends == most {
			t.Fatalf("%d ends, and %+v", ends, c.Out())
		}
		out := c.Out()
		l.does(c, finish(out[d.below(len(out))].Tag, d.below(4) >= failures))
		apart(t, c, o)
	}
	rest := c.Load()
	if valid := rest.Frames[api.Valid]; rest != (api.Load{Frames: [4]int{o.Frames - valid, 0, valid, 0}, Resident: rest.Resident}) {
		t.Fatalf("it isn't at rest: %+v", rest)
	}
	for block := range o.Blocks {
		if v, valid := c.Cached(block); valid && v != c.Disk()[block] {
			t.Fatalf("block %d: %d is cached, and the disk has %d", block, v, c.Disk()[block])
		}
	}
}

func TestWhateverComes(t *testing.T) {
	for run := range 400 {
		d := draws(run + 10001)
		o := someOptions(&d)
		first := someValues(&d, o.Blocks)
		c, l := made(t, o, first...), newLedger(t, o.Blocks, first)
		m, _ := replay.New(o)
		g := &source{d: &d, o: o, readers: make([]int, 3)}
		told := 0
		for range 120 {
			l.does(c, g.next(c))
			apart(t, c, o)
			told = beside(t, m, c, told)
		}
		settled(t, &d, l, c, o)
		beside(t, m, c, told)
	}
}

// TestTheSameAgain: the same operations come to the same, whatever is asked between; and those that are refused come to nothing, but that reads count.
func TestTheSameAgain(t *testing.T) {
	for run := range 150 {
		d := draws(run + 20001)
		o := someOptions(&d)
		c, again, without := made(t, o), made(t, o), made(t, o)
		g := &source{d: &d, o: o, readers: make([]int, 3)}
		var sums api.Tally
		for range 150 {
			op := g.next(c)
			code, answers := c.Step(op)
			otherCode, others := again.Step(op)
			if code != otherCode || fmt.Sprint(answers) != fmt.Sprint(others) {
				t.Fatalf("run %d, %+v: %d %v, not %d %v", run, op, otherCode, others, code, answers)
			}
			if code != api.OK {
				if op.Kind == api.OpRead && code != api.Arg && code != api.Range {
					n := uint64(op.Count)
					sums = tally.Sum(sums, api.Tally{Demand: n, Refused: n})
				}
				continue
			}
			if code, others := without.Step(op); code != api.OK || fmt.Sprint(answers) != fmt.Sprint(others) {
				t.Fatalf("run %d, %+v: %d %v, not %v, as something was refused", run, op, code, others, answers)
			}
			state(c, o.Blocks)
		}
		if got, want := state(again, o.Blocks), state(c, o.Blocks); got != want || !slices.Equal(again.Trace(), c.Trace()) {
			t.Fatalf("run %d: %s, not %s", run, got, want)
		}
		if !slices.Equal(without.Trace(), c.Trace()) || tally.Sum(without.Tally(), sums) != c.Tally() || without.Load() != c.Load() {
			t.Fatalf("run %d: what was refused has changed something", run)
		}
	}
}

// TestWhoIsCancelledChangesNobody: whoever else asked is answered the same, as if the request hadn't been there.
func TestWhoIsCancelledChangesNobody(t *testing.T) {
	for _, op := range []api.Op{read(9, 4, 3), read(9, 7, 1), read(9, 0, 8), write(9, 4, 1, 2, 3)} {
		for at := range 4 {
			ops := []api.Op{read(1, 4, 2), write(2, 5, 55), read(3, 5, 2), write(4, 6, 66)}
			c := of(t, oneOut)
			all(t, c, read(5, 15, 1))
			all(t, c, slices.Insert(slices.Clone(ops), at, op)...)
			does(t, c, cancel(9), cancelled(9))
			got := map[int]string{}
			for len(c.Out()) > 0 {
				_, answers := c.Step(finish(c.Out()[0].Tag, true))
				for _, a := range answers {
					got[a.ID] = fmt.Sprint(a.Code, a.Values)
				}
			}
			want := map[int]string{1: "0 [104 105]", 2: "0 []", 3: "0 [55 106]", 4: "0 []", 5: "0 [115]"}
			if fmt.Sprint(got) != fmt.Sprint(want) {
				t.Errorf("%+v, cancelled, at %d: %v, not %v", op, at, got, want)
			}
			if d := c.Disk(); d[4] != 104 || d[5] != 55 || d[6] != 66 || d[7] != 107 {
				t.Errorf("%+v, cancelled, at %d: %v", op, at, d)
			}
		}
	}
}

// TestWhoReadsAWholeDisk: block by block, waits for the first two alone, if there is room.
func TestWhoReadsAWholeDisk(t *testing.T) {
	for _, blocks := range []int{2, 3, 20, 100, 256} {
		o, _ := ask.Usual(blocks)
		c := made(t, o, tens(blocks)...)
		waited := 0
		for block := range blocks {
			_, answers := c.Step(read(1, block, 1))
			if len(answers) == 0 {
				waited++
			}
			for len(c.Out()) > 0 {
				_, more := c.Step(finish(c.Out()[0].Tag, true))
				answers = append(answers, more...)
			}
			if fmt.Sprint(answers) != fmt.Sprint([]api.Answer{well(1, uint64(100+block))}) {
				t.Fatalf("block %d of %d: %v", block, blocks, answers)
			}
		}
		if x := c.Tally(); waited != 2 || x.Missed != 2 || x.Hits != uint64(blocks-2) || x.Used != uint64(blocks-2) {
			t.Errorf("%d blocks: waited for %d, %+v", blocks, waited, x)
		}
	}
}
