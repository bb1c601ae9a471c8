package fetch_test

import (
	"fmt"
	"math"
	"testing"

	"forerunner/api"
)

// P16.6: moves go out.

func TestNextOfEachHead(t *testing.T) {
	eachHead(t, func(r rig, is string) {
		tag := len(r.g.Out()) + 1
		if has(is, "tries") {
			tag = 2
		}
		switch {
		case is == "" || has(is, "out"):
			r.none(9)
			r.none(0)
		case has(is, "write"):
			r.next(0, fmt.Sprint("tag", tag, " write 7+1 tickets[1] values[70]"))
			r.ticketsAre(is + " out")
		case has(is, " framed cut"):
			r.next(0, fmt.Sprint("tag", tag, " 7+1 tickets[1]"))
			r.ticketsAre("1 read 7 list1 tries1 waiters1 out framed cut")
		case has(is, " framed"):
			r.next(0, fmt.Sprint("tag", tag, " 7+1 tickets[1]"))
			r.ticketsAre("1 read 7 list1 tries1 waiters1 out framed")
		case has(is, "read"):
			r.none(0)
			r.ticketsAre(is)
			r.next(1, fmt.Sprint("tag", tag, " 7+1 tickets[1] fresh[7]"))
			r.ticketsAre(is + " out framed")
		default:
			r.next(1, fmt.Sprint("tag", tag, " 7+1 tickets[1] fresh[7]"))
			r.ticketsAre(is + " out framed")
		}
		r.none(9)
	})
}

func TestAnAheadWithoutRoomIsDropped(t *testing.T) {
	for _, room := range append([]int{0, -1, -7}, greats...) {
		if room > 0 {
			continue
		}
		r := usual(t)
		r.g.Ahead(9)
		r.g.Read(12, api.Seq, who(1, 0))
		r.g.Ahead(3)
		r.g.Ahead(7)
		r.none(room, 9, 3, 7) // in the order of their turns
		r.ticketsAre("2 read 12 waiters1")
		r.freeIs(15, 8, 31)
		if !r.g.Idle(3) {
			t.Error("the lane of a dropped block isn't empty")
		}
		r.none(room)
		r.next(1, "tag1 12+1 tickets[2] fresh[12]")
	}
}

func TestAMoveWithoutRoomComesAheadOfWhatWouldBeDropped(t *testing.T) {
	r := ones(t)
	r.g.Ahead(9)
	r.g.Read(4, api.Seq, who(1, 0))
	r.g.Write(5, 50, who(1, 1))
	r.g.Ahead(3)
	r.next(0, "tag1 write 5+1 tickets[3] values[50]") // it is the first that is taken: no Ahead was gone through
	r.ticketsAre("1 ahead 9", "2 read 4 waiters1", "3 write 5 waiters1 out", "4 ahead 3")
	r.none(0, 9, 3)
	r.ticketsAre("2 read 4 waiters1", "3 write 5 waiters1 out")
}

func TestNoMoreMovesAreOutThanMayBe(t *testing.T) {
	for most := 1; most <= 16; most++ {
		r := with(t, func(o *api.Options) { o.Out, o.Span, o.Demand = most, 1, 64 })
		for block := range 19 {
			r.g.Read(block, api.Seq, who(1+block, 0))
		}
		r.g.Ahead(19)
		for i := range most {
			r.next(9, fmt.Sprintf("tag%d %d+1 tickets[%d] fresh[%d]", i+1, i, i+1, i))
		}
		r.unchanged(func() { // no Ahead is dropped then
			r.none(9)
			r.none(0)
		})
		r.g.Finish(most, true)
		r.next(9, fmt.Sprintf("tag%d %d+1 tickets[%d] fresh[%d]", most+1, most, most+1, most))
		r.none(9)
	}
}

func TestMovesGoByTurns(t *testing.T) {
	r := ones(t)
	r.g.Ahead(2)
	r.g.Ahead(1)
	r.g.Write(9, 90, who(1, 0))
	r.g.Read(4, api.Seq, who(1, 1))
	r.g.Read(9, api.Seq, who(1, 2)) // behind the write
	r.g.Write(6, 60, who(1, 3))
	for i, want := range []string{
		"write 9+1 tickets[3] values[90]", "4+1 tickets[4] fresh[4]", "write 6+1 tickets[6] values[60]", "2+1 tickets[1] fresh[2]", "1+1 tickets[2] fresh[1]",
	} {
		r.next(1, fmt.Sprint("tag", i+1, " ", want))
	}
	r.none(9)
	r.finish(1, true, "ended: 3 write 9 waiters1 out value90 for 1.0")
	r.next(1, "tag6 9+1 tickets[5] fresh[9]")
}

func TestWhatIsNoHeadIsPassedOver(t *testing.T) {
	r := ones(t)
	r.g.Read(9, api.Seq, who(1, 0))
	r.g.Next(1)
	r.g.Write(9, 90, who(1, 1))
	r.g.Read(9, api.Seq, who(1, 2))
	r.g.Write(9, 91, who(1, 3))
	r.none(9)
	r.g.Write(8, 80, who(1, 4))
	r.next(9, "tag2 write 8+1 tickets[5] values[80]")
	r.finish(1, false, "again: 1 read 9 waiters1 out framed")
	r.next(9, "tag3 9+1 tickets[1]") // the head goes again, ahead of all behind it
	r.finish(3, true, "ended: 1 read 9 tries1 waiters1 out framed for 1.0")
	r.next(0, "tag4 write 9+1 tickets[2] values[90]")
	r.none(9)
}

func TestWhatFailedKeepsItsTurn(t *testing.T) {
	r := ones(t)
	for i, block := range []int{5, 3, 8} {
		r.g.Read(block, api.Seq, who(1, i))
	}
	r.g.Next(9)
	r.g.Next(9)
	r.g.Finish(2, false)
	r.g.Finish(1, false)
	r.next(9, "tag3 5+1 tickets[1]")
	r.next(9, "tag4 3+1 tickets[2]")
	r.next(9, "tag5 8+1 tickets[3] fresh[8]")
}

// reads lets each of the blocks be read, by a request of its own.
func reads(r rig, blocks ...int) {
	for i, block := range blocks {
		r.g.Read(block, api.Seq, who(100+i, 0))
	}
}

func TestARunGoesUpFirst(t *testing.T) {
	for _, c := range []struct {
		span, room int
		blocks     []int // the first one's turn it is
		want       string
	}{
		{1, 9, []int{5, 6, 4}, "5+1 tickets[1] fresh[5]"},
		{2, 9, []int{5, 6, 4}, "5+2 tickets[1 2] fresh[5 6]"},
		{3, 9, []int{5, 6, 4}, "4+3 tickets[3 1 2] fresh[4 5 6]"},
		{8, 9, []int{5, 6, 4}, "4+3 tickets[3 1 2] fresh[4 5 6]"},
		{8, 1, []int{5, 6, 4}, "5+1 tickets[1] fresh[5]"},
		{8, 2, []int{5, 6, 4}, "5+2 tickets[1 2] fresh[5 6]"},
		{8, 3, []int{5, 6, 4}, "4+3 tickets[3 1 2] fresh[4 5 6]"},
		{4, 9, []int{5, 4, 3, 2, 1}, "2+4 tickets[4 3 2 1] fresh[2 3 4 5]"},
		{4, 9, []int{5, 6, 7, 8, 9, 4}, "5+4 tickets[1 2 3 4] fresh[5 6 7 8]"},
		{8, 9, []int{5, 7, 8, 3, 4}, "3+3 tickets[4 5 1] fresh[3 4 5]"}, // not beyond a gap
		{8, 9, []int{19, 18}, "18+2 tickets[2 1] fresh[18 19]"},
		{8, 9, []int{0, 1}, "0+2 tickets[1 2] fresh[0 1]"},
		{8, 8, []int{4, 11, 10, 9, 8, 7, 6, 5, 3, 12}, "4+8 tickets[1 8 7 6 5 4 3 2] fresh[4 5 6 7 8 9 10 11]"},
		{8, math.MaxInt, []int{5, 6}, "5+2 tickets[1 2] fresh[5 6]"},
	} {
		r := with(t, func(o *api.Options) { o.Span = c.span })
		reads(r, c.blocks...)
		r.next(c.room, "tag1 "+c.want)
	}
}

func TestARunIsOfItsKind(t *testing.T) {
	r := with(t, func(o *api.Options) { o.Span = 8 })
	r.g.Write(5, 50, who(1, 0))
	reads(r, 6, 4)
	r.g.Write(3, 30, who(1, 1))
	r.g.Write(2, 20, who(1, 2))
	r.g.Ahead(7)
	r.g.Ahead(8)
	r.g.Ahead(9)
	r.g.Read(9, api.Rand, who(2, 0))
	r.next(9, "tag1 write 5+1 tickets[1] values[50]")
	r.next(9, "tag2 6+1 tickets[2] fresh[6]")
	r.next(9, "tag3 4+1 tickets[3] fresh[4]")
	r.next(9, "tag4 write 2+2 tickets[5 4] values[20 30]")
	r.g.Finish(1, true)
	r.next(9, "tag5 9+1 tickets[8] fresh[9]")
	r.g.Finish(2, true)
	r.next(9, "tag6 7+2 tickets[6 7] fresh[7 8]")
}

func TestARunHasBothLists(t *testing.T) {
	r := usual(t)
	r.g.Read(5, api.Seq, who(1, 0))
	r.g.Read(6, api.Rand, who(1, 1))
	r.next(9, "tag1 5+2 tickets[1 2] fresh[5 6]")
}

func TestARunHasNoHeadThatIsOut(t *testing.T) {
	r := usual(t)
	r.g.Read(5, api.Seq, who(1, 0))
	r.g.Next(9)
	reads(r, 3, 4, 6)
	r.next(9, "tag2 3+2 tickets[2 3] fresh[3 4]")
	r.next(9, "tag3 6+1 tickets[4] fresh[6]")
}

func TestARunIsOfHeadsAlone(t *testing.T) {
	r := usual(t)
	r.g.Write(6, 60, who(1, 0))
	r.g.Read(6, api.Seq, who(1, 1))
	r.g.Read(5, api.Seq, who(1, 2))
	r.g.Write(7, 70, who(1, 3))
	r.g.Read(7, api.Seq, who(1, 4))
	r.next(9, "tag1 write 6+2 tickets[1 4] values[60 70]")
	r.next(9, "tag2 5+1 tickets[3] fresh[5]")
	r.g.Finish(1, true)
	r.next(9, "tag3 6+2 tickets[2 5] fresh[6 7]")
}

// framed is an engine in which the Reads of blocks 5 and 6 have frames, and wait again, and those of 4 and 7 have none.
func framed(t *testing.T) rig {
	r := with(t, func(o *api.Options) { o.Span = 8 })
	reads(r, 5, 6)
	r.g.Next(9)
	r.g.Read(7, api.Seq, who(1, 0))
	r.g.Read(4, api.Seq, who(1, 1))
	r.g.Finish(1, false)
	return r
}

func TestWhatIsFramedCostsNoRoom(t *testing.T) {
	for room, want := range []string{
		"tag2 5+2 tickets[1 2]", "tag2 5+3 tickets[1 2 3] fresh[7]", "tag2 4+4 tickets[4 1 2 3] fresh[4 7]",
	} {
		r := framed(t)
		r.next(room, want)
	}
	r := framed(t)
	r.next(-5, "tag2 5+2 tickets[1 2]")
	r = framed(t)
	r.g.Quit(100) // block 5's goes: that of 6 is the first then, and 4 too far
	r.next(0, "tag2 6+1 tickets[2]")
	r = framed(t)
	r.g.Quit(101)
	r.next(1, "tag2 4+2 tickets[4 1] fresh[4]")
}

func TestAReadWithoutRoomIsPassedOver(t *testing.T) {
	r := ones(t)
	r.g.Read(5, api.Seq, who(1, 0))
	r.g.Read(9, api.Seq, who(1, 1))
	r.g.Next(9)
	r.g.Next(9)
	r.g.Read(4, api.Seq, who(1, 2))
	r.g.Write(6, 60, who(1, 3))
	r.g.Finish(2, false)
	r.next(0, "tag3 9+1 tickets[2]")
	r.next(0, "tag4 write 6+1 tickets[4] values[60]")
	r.none(0)
	r.next(1, "tag5 4+1 tickets[3] fresh[4]")
}

func TestAWriteNeedsNoRoom(t *testing.T) {
	r := usual(t)
	for i, block := range []int{5, 6, 7} {
		r.g.Write(block, uint64(10*block), who(1, i))
	}
	r.next(0, "tag1 write 5+3 tickets[1 2 3] values[50 60 70]")
	r.ticketsAre("1 write 5 waiters1 out", "2 write 6 waiters1 out", "3 write 7 waiters1 out")
	r.finish(1, false, "again: 1 write 5 waiters1 out value50", "again: 2 write 6 waiters1 out value60", "again: 3 write 7 waiters1 out value70")
	r.next(0, "tag2 write 5+3 tickets[1 2 3] values[50 60 70]") // it wasn't Framed
}

func TestTheFirstAndTheLastBlock(t *testing.T) {
	r := with(t, func(o *api.Options) { o.Blocks = 256 })
	reads(r, 255, 0, 254, 1)
	r.next(9, "tag1 254+2 tickets[3 1] fresh[254 255]")
	r.next(9, "tag2 0+2 tickets[2 4] fresh[0 1]")
	r = with(t, func(o *api.Options) { o.Blocks = 1 })
	reads(r, 0, 1)
	r.next(9, "tag1 0+1 tickets[1] fresh[0]")
	r.none(9)
}

func TestTagsRise(t *testing.T) {
	r := usual(t)
	for tag := 1; tag <= 9; tag++ {
		r.g.Read(5, api.Seq, who(1, 0))
		r.none(0) // none takes no tag
		r.next(9, fmt.Sprintf("tag%d 5+1 tickets[%d] fresh[5]", tag, tag))
		r.none(9)
		r.finish(tag, true, fmt.Sprintf("ended: %d read 5 waiters1 out framed for 1.0", tag))
	}
}

// P16.7: moves are finished.

func TestFinishTellsEachOutcome(t *testing.T) {
	for _, well := range []bool{true, false} {
		r := with(t, func(o *api.Options) { o.Tries = 2 })
		r.g.Read(6, api.Rand, who(2, 0))
		r.g.Read(5, api.Seq, who(1, 0))
		r.g.Read(5, api.Seq, who(3, 5))
		r.g.Read(7, api.Seq, who(1, 1))
		r.g.Read(5, api.Seq, who(1, 2))
		r.g.Next(9)
		r.g.Cut(7)
		r.g.Quit(2)
		outcomes := []string{"2 read 5 waiters3 out framed", "1 read 6 list1 out framed", "3 read 7 waiters1 out framed cut"}
		if well {
			r.finish(1, true, "ended: "+outcomes[0]+" for 1.0 3.5 1.2", "ended: "+outcomes[1], "ended: "+outcomes[2]+" for 1.1")
			r.ticketsAre()
			r.freeIs(16, 8, 32)
		} else {
			r.finish(1, false, "again: "+outcomes[0], "lost: "+outcomes[1], "again: "+outcomes[2])
			r.ticketsAre("2 read 5 tries1 waiters3 framed", "3 read 7 tries1 waiters1 framed cut")
			r.ofIs(2, who(1, 0), who(3, 5), who(1, 2))
			r.freeIs(14, 8, 28)
		}
		r.outIs()
		r.unfinished(1)
	}
}

func TestATicketIsTriedSoOften(t *testing.T) {
	for tries := 1; tries <= 8; tries++ {
		for well := range tries + 1 { // it fails so often, ahead of going well; or is lost
			r := with(t, func(o *api.Options) { o.Tries = tries })
			r.g.Read(5, api.Seq, who(1, 0))
			r.g.Write(9, 90, who(1, 1))
			failed := ""
			for i := range well {
				r.g.Next(9)
				r.g.Next(9)
				if i+1 < tries {
					r.finish(2*i+1, false, "again: 1 read 5"+failed+" waiters1 out framed")
					r.finish(2*i+2, false, "again: 2 write 9"+failed+" waiters1 out value90")
				} else {
					r.finish(2*i+1, false, "lost: 1 read 5"+failed+" waiters1 out framed for 1.0")
					r.finish(2*i+2, false, "lost: 2 write 9"+failed+" waiters1 out value90 for 1.1")
				}
				failed = fmt.Sprint(" tries", i+1)
			}
			if well < tries {
				r.g.Next(9)
				r.g.Next(9)
				r.finish(2*well+1, true, "ended: 1 read 5"+failed+" waiters1 out framed for 1.0")
				r.finish(2*well+2, true, "ended: 2 write 9"+failed+" waiters1 out value90 for 1.1")
			}
			r.ticketsAre()
			r.none(9)
			r.freeIs(16, 8, 32)
		}
	}
}

func TestWhatNobodyWaitsForIsLost(t *testing.T) {
	r := with(t, func(o *api.Options) { o.Tries = 8 })
	r.g.Ahead(3)
	r.g.Ahead(4)
	r.g.Read(9, api.Rand, who(1, 0))
	r.g.Next(9)
	r.g.Next(9)
	r.g.Cut(4)
	r.g.Quit(1)
	r.finish(2, false, "lost: 1 ahead 3 out framed", "lost: 2 ahead 4 out framed cut")
	r.finish(1, false, "lost: 3 read 9 list1 out framed")
	r.ticketsAre()
	r.freeIs(16, 8, 32)
}

func TestAnAheadEnds(t *testing.T) {
	r := usual(t)
	r.g.Ahead(3)
	r.g.Next(9)
	r.g.Write(3, 30, who(1, 0))
	r.none(9)
	r.finish(1, true, "ended: 1 ahead 3 out framed")
	r.next(9, "tag2 write 3+1 tickets[2] values[30]")
}

func TestFinishOfNone(t *testing.T) {
	r := usual(t)
	r.unfinished(1)
	reads(r, 3, 9)
	r.g.Next(9)
	r.g.Next(9)
	for _, tag := range append([]int{-2, -1, 0, 3, 4, 9, 1<<32 + 2}, greats...) {
		r.unfinished(tag)
	}
	r.g.Finish(2, false)
	r.unfinished(2)
	r.g.Next(9)
	r.unfinished(2) // the same ticket is out by another tag now
	r.outIs("tag1 3+1 tickets[1] fresh[3]", "tag3 9+1 tickets[2]")
}

func TestMovesAreFinishedInAnyOrder(t *testing.T) {
	for _, order := range [][]int{{1, 2, 3}, {1, 3, 2}, {2, 1, 3}, {2, 3, 1}, {3, 1, 2}, {3, 2, 1}} {
		r := ones(t)
		reads(r, 10, 11, 12)
		for range 3 {
			r.g.Next(9)
		}
		for _, tag := range order {
			r.finish(tag, true, fmt.Sprintf("ended: %d read %d waiters1 out framed for %d.0", tag, 9+tag, 99+tag))
		}
		r.ticketsAre()
	}
}

// P16.8: what needs no disk.

func TestServeOfEachHead(t *testing.T) {
	eachHead(t, func(r rig, is string) {
		if is == "1 read 7 list1 waiters1" {
			r.serve(7, is+" for 1.0")
			r.ticketsAre()
			r.freeIs(16, 8, 32)
		}
		r.unserved(7)
		r.unserved(6)
		r.unserved(20)
		r.unserved(-1)
	})
}

func TestServeTellsWhoWaited(t *testing.T) {
	r := usual(t)
	for _, w := range []api.Waiter{who(5, 0), who(2, 7), who(9, 1), who(5, 2)} {
		r.g.Read(7, api.Rand, w)
	}
	r.g.Write(7, 70, who(1, 0))
	r.g.Read(7, api.Seq, who(1, 1))
	r.g.Read(8, api.Seq, who(1, 2))
	r.serve(7, "1 read 7 list1 waiters4 for 5.0 2.7 9.1 5.2")
	r.ofIs(1)
	r.freeIs(13, 8, 29)
	r.unserved(7) // a Write is the head
	r.next(0, "tag1 write 7+1 tickets[2] values[70]")
	r.unserved(7)
	r.finish(1, true, "ended: 2 write 7 waiters1 out value70 for 1.0")
	r.serve(7, "3 read 7 waiters1 for 1.1")
	r.serve(8, "4 read 8 waiters1 for 1.2")
	r.ticketsAre()
}

// P16.9: what follows.

func TestTheExample(t *testing.T) {
	r := usual(t)
	r.ahead(4, "1 ahead 4")
	r.read(4, api.Seq, who(1, 0), "late", "1 read 4 waiters1")
	r.read(5, api.Seq, who(1, 1), "new", "2 read 5 waiters1")
	r.next(8, "tag1 4+2 tickets[1 2] fresh[4 5]")
	r.finish(1, false, "again: 1 read 4 waiters1 out framed", "again: 2 read 5 waiters1 out framed")
	r.next(0, "tag2 4+2 tickets[1 2]")
}

// watch is what is seen of an engine while it is used: who waits, and how far each block's tickets were begun.
type watch struct {
	waits map[api.Waiter]bool
	begun [256]int
}

// came notes that somebody waits.
func (s *watch) came(w api.Waiter, code api.Code) {
	if code == api.OK {
		s.waits[w] = true
	}
}

// told notes who is told, each of whom must wait.
func (s *watch) told(t *testing.T, all []api.Waiter) {
	for _, w := range all {
		if !s.waits[w] {
			t.Errorf("%v is told, but doesn't wait", w)
		}
		delete(s.waits, w)
	}
}

// quit notes that a request's waiters wait no more.
func (s *watch) quit(req int, code api.Code) {
	for w := range s.waits {
		if code == api.OK && w.Req == req {
			delete(s.waits, w)
		}
	}
}

// moved asks of a move whether each block's tickets are begun in order.
func (s *watch) moved(t *testing.T, m api.Move) {
	for i, id := range m.Tickets {
		block := m.Run.First + i
		if id < s.begun[block] {
			t.Errorf("block %d: ticket %d is begun behind %d", block, id, s.begun[block])
		}
		s.begun[block] = id
	}
}

// holds asks for what must hold at any time: moves are apart, none failed too often, and just those wait who came, and weren't told.
func (s *watch) holds(t *testing.T, r rig, tries int) {
	taken := map[int]bool{}
	for _, m := range r.g.Out() {
		for block := m.Run.First; block < m.Run.First+m.Run.Count; block++ {
			if taken[block] {
				t.Errorf("block %d is in two moves", block)
			}
			taken[block] = true
		}
	}
	waits := 0
	for _, x := range r.g.Tickets() {
		if x.Tries >= tries {
			t.Errorf("%q failed too often", ticket(x))
		}
		for _, w := range r.g.Of(x.ID) {
			if waits++; !s.waits[w] {
				t.Errorf("%v waits still", w)
			}
		}
	}
	if waits != len(s.waits) {
		t.Errorf("%d wait, not %d", waits, len(s.waits))
	}
}

// use does something of an engine, and watches it.
func (s *watch) use(t *testing.T, d *draws, r rig) {
	block, w := d.below(8), who(1+d.below(8), d.below(8))
	switch d.below(10) {
	case 0, 1:
		_, _, _, code := r.g.Read(block, d.below(2), w)
		s.came(w, code)
	case 2:
		_, _, code := r.g.Write(block, 5, w)
		s.came(w, code)
	case 3:
		r.g.Ahead(block)
	case 4:
		r.g.Cut(block)
	case 5:
		_, code := r.g.Quit(w.Req)
		s.quit(w.Req, code)
	case 6:
		_, all, _ := r.g.Serve(block)
		s.told(t, all)
	case 7, 8:
		m, _, _ := r.g.Next(d.below(3))
		s.moved(t, m)
	case 9:
		s.finish(t, d, r)
	}
}

// finish lets one of the moves that are out be finished.
func (s *watch) finish(t *testing.T, d *draws, r rig) {
	out := r.g.Out()
	if len(out) == 0 {
		return
	}
	l, _ := r.g.Finish(out[d.below(len(out))].Tag, d.below(3) > 0)
	for _, o := range l {
		s.told(t, o.Waiters)
	}
}

func TestWhatFollows(t *testing.T) {
	d := &draws{state: 16}
	for round := range 200 {
		tries := 1 + round%4
		r := with(t, func(o *api.Options) { o.Blocks, o.Tries, o.Out = 8, tries, 1+round%3 })
		s := &watch{waits: map[api.Waiter]bool{}}
		for range 150 {
			s.use(t, d, r)
			s.holds(t, r, tries)
		}
		for step := 0; len(r.g.Tickets()) > 0 && step < 2000; step++ { // nothing more is asked
			m, _, _ := r.g.Next(1)
			s.moved(t, m)
			s.finish(t, d, r)
		}
		r.ticketsAre()
		if len(s.waits) > 0 {
			t.Errorf("%v were never told", s.waits)
		}
		r.freeIs(16, 8, 32)
		if t.Failed() {
			t.Fatalf("round %d", round)
		}
	}
}

// draws is a row of numbers that look as if they came by chance, and are the same ones each time.
type draws struct{ state uint64 }

func (d *draws) below(n int) int {
	d.state = d.state*6364136223846793005 + 1442695040888963407
	return int(d.state >> 33 % uint64(n))
}

func TestTheSameComesToTheSame(t *testing.T) {
	used := func() string {
		d := &draws{state: 5}
		r := usual(t)
		s := &watch{waits: map[api.Waiter]bool{}}
		var text []string
		for range 300 {
			s.use(t, d, r)
			text = append(text, r.all())
		}
		return fmt.Sprint(text)
	}
	first := used()
	for range 5 { // whatever the order in which a map is gone through
		if used() != first {
			t.Error("the same calls came to something else")
		}
	}
}
