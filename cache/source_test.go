package cache_test

import (
	"fmt"
	"math"
	"testing"

	"forerunner/api"
	"forerunner/cache"
	"forerunner/tally"
)

// draws are numbers from anywhere, the same ones in each run.
type draws uint64

func (d *draws) below(n int) int {
	*d = *d*6364136223846793005 + 1442695040888963407
	return int(uint64(*d>>33) % uint64(n))
}

// someOptions are options of a small cache, whose ends are met soon.
func someOptions(d *draws) api.Options {
	o := api.Options{
		Blocks: 1 + d.below(24), Frames: 1 + d.below(7), Demand: 1 + d.below(10), Ahead: d.below(5), Out: 1 + d.below(4), Span: 1 + d.below(4),
		Tries: 1 + d.below(3), Requests: 1 + d.below(6), Waiters: 1 + d.below(12),
		Streams: 1 + d.below(3), Table: 1 + d.below(5), Life: 1 + d.below(8), Degree: 1 + d.below(5),
	}
	o.Bottom = 1 + d.below(o.Frames)
	return o
}

// someValues are values of a disk's first blocks.
func someValues(d *draws, blocks int) []uint64 {
	first := make([]uint64, d.below(blocks+1))
	for i := range first {
		first[i] = uint64(1000 + i)
	}
	return first
}

// source is where operations come from: readers who read one block behind the other, and all else. What is written is never the same twice.
type source struct {
	d       *draws
	o       api.Options
	readers []int
	written uint64
}

// next is an operation for a cache as it is.
func (g *source) next(c *cache.Cache) api.Op {
	op := g.likely(c)
	if g.d.below(16) == 0 {
		return g.spoilt(op)
	}
	return op
}

func (g *source) likely(c *cache.Cache) api.Op {
	id := 1 + g.d.below(g.o.Requests+2)
	count := 1 + g.d.below(min(4, g.o.Blocks))
	first := g.d.below(g.o.Blocks - count + 1)
	switch pick := g.d.below(20); {
	case pick < 5:
		at := g.d.below(len(g.readers))
		count = min(1+g.d.below(2), g.o.Blocks)
		first = min(g.readers[at], g.o.Blocks-count)
		g.readers[at] = (first + count) % g.o.Blocks
		return read(id, first, count)
	case pick < 7:
		return read(id, first, count)
	case pick < 9:
		return write(id, first, g.values(count)...)
	case pick < 10:
		return drop(first, count)
	case pick < 12:
		return cancel(g.pending(c, id))
	}
	return finish(g.out(c), g.d.below(4) > 0)
}

// values are values that were never written.
func (g *source) values(count int) []uint64 {
	values := make([]uint64, count)
	for i := range values {
		g.written++
		values[i] = g.written
	}
	return values
}

// pending is the number of a request that is pending, if there is one, most often.
func (g *source) pending(c *cache.Cache, id int) int {
	if all := c.Pending(); len(all) > 0 && g.d.below(10) > 0 {
		return all[g.d.below(len(all))]
	}
	return id
}

// out is the tag of a command that is outstanding, if there is one, most often.
func (g *source) out(c *cache.Cache) int {
	if all := c.Out(); len(all) > 0 && g.d.below(20) > 0 {
		return all[g.d.below(len(all))].Tag
	}
	return 1 + g.d.below(30)
}

// spoilt is an operation that has something else in one of its fields.
func (g *source) spoilt(op api.Op) api.Op {
	n := []int{-1, 0, 1, 2, 3, 6, 8, 9, g.o.Blocks, math.MaxInt, math.MinInt}[g.d.below(11)]
	switch g.d.below(7) {
	case 0:
		op.Kind = n
	case 1:
		op.ID = n
	case 2, 6:
		op.First = n
	case 3:
		op.Count = n
	case 4:
		op.Values = g.values(g.d.below(10))
	case 5:
		op.Well = !op.Well
	}
	return op
}

// parts counts tallies that have something of each count.
func parts(seen map[string]int, sums api.Tally) {
	for which, n := range tally.Counts(sums) {
		if n > 0 {
			seen[fmt.Sprint("count ", which)]++
		}
	}
}

// hasSeen tells that all that there is was met often enough.
func hasSeen(t *testing.T, seen map[string]int) {
	t.Helper()
	want := map[string][]api.Code{
		"kind 1: ": {api.OK, api.Arg, api.Range, api.Exists, api.Full, api.Busy},
		"kind 2: ": {api.OK, api.Arg, api.Range, api.Exists, api.Full, api.Busy},
		"kind 3: ": {api.OK, api.Arg, api.Range},
		"kind 4: ": {api.OK, api.Arg, api.NotFound, api.Busy},
		"kind 5: ": {api.OK, api.Arg, api.NotFound},
		"answer: ": {api.OK, api.Failed, api.Cancelled},
	}
	for what, codes := range want {
		for _, code := range codes {
			if n := seen[fmt.Sprint(what, code)]; n < 10 {
				t.Errorf("%s%d: seen %d times", what, code, n)
			}
		}
	}
	for kind := api.EvAccess; kind <= api.EvWaste; kind++ {
		if n := seen[fmt.Sprint("event ", kind)]; n < 50 {
			t.Errorf("event %d: seen %d times", kind, n)
		}
	}
	for which := range 10 {
		if n := seen[fmt.Sprint("count ", which)]; n < 50 {
			t.Errorf("count %d: seen in %d runs", which, n)
		}
	}
}
