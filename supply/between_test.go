package supply_test

import (
	"math"
	"testing"

	"rundale/api"
)

// P13.2: one exchange fails, and others: again from the Load of the head, with what is there then; the epoch is not loaded again.
func TestTakeWhoseExchangeFails(t *testing.T) {
	for _, waits := range []bool{false, true} {
		c := sized(9, 1, 2)
		m, s := pooled(t, c, 6, 0, 8, 4, 1)
		m.Lay(epochAt, 4)
		seen := -1
		if waits {
			retired(t, s, 3, 7)
			seen = 4
		}
		k := taking(t, m, s)
		if waits {
			wantSteps(t, m, k, false, load(epochAt, 4))
			m.Lay(epochAt, 100)
		}
		first := pops(c, 2, 0, 6, 0, 8, 4, 1)
		wantSteps(t, m, k, false, first[:len(first)-1]...)
		other := chainsOf(t, m, c).Pool().Pop(1)
		through(t, m, other)
		wantSteps(t, m, k, false, missed(poolHead, head(0, 1)))
		wantStash(t, s)
		second := pops(c, 2, 1, 0, 8, 4, 1)
		wantSteps(t, m, k, false, second[:1]...)
		through(t, m, chainsOf(t, m, c).Pool().Pop(2))
		wantSteps(t, m, k, false, second[1], load(linkAt(c, 8), link(4)), missed(poolHead, head(4, 2)))
		wantStash(t, s)
		wantSteps(t, m, k, true, pops(c, 2, 2, 4, 1)...)
		wantChunk(t, k, 4)
		wantSeen(t, k, seen)
		wantStash(t, s, 1)
		wantPool(t, m, c)
		if waits {
			wantLimbo(t, s, bucket{3, []int{7}})
		}
	}
}

// P13.2: others take all that there was: done, without a chunk.
func TestTakeThatComesTooLate(t *testing.T) {
	c := sized(9, 1, 8)
	m, s := pooled(t, c, 6, 0)
	k := taking(t, m, s)
	all := pops(c, 8, 0, 6, 0)
	wantSteps(t, m, k, false, all[:len(all)-1]...)
	through(t, m, chainsOf(t, m, c).Pool().Pop(8))
	wantSteps(t, m, k, true, missed(poolHead, head(-1, 1)), load(poolHead, head(-1, 1)))
	wantNone(t, k)
	wantSeen(t, k, -1)
	wantStash(t, s)
}

// P13.2: others push what they have while it sleeps behind the Load of the epoch: it is what the pool has at the Load of the head.
func TestTakeThatSleepsBehindTheEpoch(t *testing.T) {
	c := sized(9, 1, 8)
	m, s := pooled(t, c)
	retired(t, s, 0, 7)
	k := taking(t, m, s)
	wantSteps(t, m, k, false, load(epochAt, 0))
	push, _ := chainsOf(t, m, c).Pool().Push(5, 3)
	through(t, m, push)
	wantSteps(t, m, k, true, pops(c, 8, 1, 5, 3)...)
	wantChunk(t, k, 5)
	wantSeen(t, k, 0)
	wantStash(t, s, 3)
}

// P13.2: the same chunk is on top again, over another one: the Tag tells it.
func TestTakeThatSleeps(t *testing.T) {
	c := sized(4, 1, 1)
	m, s := pooled(t, c, 0, 1, 2, 3)
	r := over(t, m, c)
	k := taking(t, m, s)
	wantSteps(t, m, k, false, load(poolHead, head(0, 0)), load(linkAt(c, 0), link(1)))
	for range 2 {
		through(t, m, taking(t, m, r))
	}
	r.Put(0)
	through(t, m, r.All())
	wantPool(t, m, c, 0, 2, 3)
	wantSteps(t, m, k, false, missed(poolHead, head(0, 3)))
	wantSteps(t, m, k, true, pops(c, 1, 3, 0, 2, 3)...)
	wantChunk(t, k, 0)
	wantPool(t, m, c, 2, 3)
}

// P13.2: what counts is the epoch at the Load: neither the one ahead of it nor the one behind it.
func TestTakeGoesByWhatItLoaded(t *testing.T) {
	c := sized(9, 1, 2)
	m, s := pooled(t, c, 6)
	retired(t, s, 3, 7)
	k := taking(t, m, s)
	m.Lay(epochAt, 4)
	wantSteps(t, m, k, false, load(epochAt, 4))
	m.Lay(epochAt, 5)
	wantSteps(t, m, k, true, pops(c, 2, 0, 6)...)
	wantChunk(t, k, 6)
	wantSeen(t, k, 4)
	wantLimbo(t, s, bucket{3, []int{7}})
	m.Lay(epochAt, 4)
	k = taking(t, m, s)
	m.Lay(epochAt, 5)
	wantSteps(t, m, k, true, load(epochAt, 5))
	wantChunk(t, k, 7)
	wantSeen(t, k, 5)
}

// P13.2, P0.7: what it is to do first is reckoned as it is made: what is retired or ready later does not turn that.
func TestTakeIsSettledAsItIsMade(t *testing.T) {
	c := sized(9, 1, 2)
	m, s := pooled(t, c, 6, 2)
	m.Lay(epochAt, 9)
	k := taking(t, m, s)
	retired(t, s, 3, 7)
	wantSteps(t, m, k, true, pops(c, 2, 0, 6, 2)...)
	wantChunk(t, k, 6)
	wantSeen(t, k, -1)
	wantStash(t, s, 2)
	wantLimbo(t, s, bucket{3, []int{7}})

	wantChunk(t, taking(t, m, s), 2)
	k = taking(t, m, s)
	wantReady(t, s, 5, 1)
	wantGoingOn(t, k)
	wantSteps(t, m, k, true, load(epochAt, 9))
	wantChunk(t, k, 7)
	wantSeen(t, k, 9)
	wantStash(t, s)

	retired(t, s, 9, 7)
	k = taking(t, m, s)
	wantReady(t, s, 11, 1)
	wantChunk(t, taking(t, m, s), 7)
	wantSteps(t, m, k, true, load(epochAt, 9), load(poolHead, head(-1, 1)))
	wantNone(t, k)
	wantSeen(t, k, 9)
}

// P13.2: what is kept ahead of the Load of the epoch is asked behind it; what is kept later is not.
func TestTakeOfWhatIsPutMeanwhile(t *testing.T) {
	c := sized(9, 1, 2)
	m, s := pooled(t, c, 6, 2)
	retired(t, s, 3, 7)
	k := taking(t, m, s)
	s.Put(8, 5)
	wantGoingOn(t, k)
	wantSteps(t, m, k, true, load(epochAt, 0))
	wantChunk(t, k, 5)
	wantSeen(t, k, 0)
	wantStash(t, s, 8)
	wantLimbo(t, s, bucket{3, []int{7}})

	wantChunk(t, taking(t, m, s), 8)
	k = taking(t, m, s)
	wantSteps(t, m, k, false, load(epochAt, 0))
	s.Put(8)
	all := pops(c, 2, 0, 6, 2)
	wantSteps(t, m, k, false, all[:2]...)
	s.Put(5)
	wantSteps(t, m, k, true, all[2:]...)
	wantChunk(t, k, 6)
	wantStash(t, s, 8, 5, 2)
}

// P13.2, P0.5: two Takes of one supply at once: each does its own accesses, and what one leaves the other may take, while it has not asked the pool yet.
func TestTwoTakesOfOneSupply(t *testing.T) {
	c := sized(9, 1, 3)
	m, s := pooled(t, c, 6, 2, 5, 1)
	retired(t, s, 3, 7)
	a, b, d := taking(t, m, s), taking(t, m, s), taking(t, m, s)
	wantSteps(t, m, a, false, load(epochAt, 0))
	wantSteps(t, m, b, false, load(epochAt, 0))
	all := pops(c, 3, 0, 6, 2, 5, 1)
	wantSteps(t, m, a, false, all[:4]...)
	wantSteps(t, m, b, false, all[:1]...)
	wantSteps(t, m, a, true, all[4])
	wantChunk(t, a, 6)
	wantStash(t, s, 2, 5)
	wantSteps(t, m, d, true, load(epochAt, 0))
	wantChunk(t, d, 5)
	wantSteps(t, m, b, false, load(linkAt(c, 6), link(2)), load(linkAt(c, 2), link(5)), load(linkAt(c, 5), link(1)), missed(poolHead, head(1, 1)))
	wantSteps(t, m, b, true, pops(c, 3, 1, 1)...)
	wantChunk(t, b, 1)
	wantStash(t, s, 2)
	wantPool(t, m, c)
}

// P13.3: an exchange fails, and another one: again from the Load of the head; the last one's link is stored anew, the others' are not. All are in hand till the end.
func TestGiveWhoseExchangeFails(t *testing.T) {
	for name, give := range ways {
		c := sized(9, 0, 2)
		m, s := pooled(t, c, 6, 7)
		s.Put(3, 0, 5)
		last := func() uint64 { return m.Peek(linkAt(c, 5)) }
		g := give(s)
		wantSteps(t, m, g, false, pushes(m, c, 6, 0, 3, 0, 5)[:4]...)
		through(t, m, chainsOf(t, m, c).Pool().Pop(1))
		wantSteps(t, m, g, false, missed(poolHead, head(7, 1)), load(poolHead, head(7, 1)))
		wantHand(t, g, 3, 0, 5)
		through(t, m, chainsOf(t, m, c).Pool().Pop(1))
		wantSteps(t, m, g, false, store(linkAt(c, 5), last(), link(7)), missed(poolHead, head(-1, 2)))
		wantHand(t, g, 3, 0, 5)
		wantPool(t, m, c)
		wantSteps(t, m, g, true, load(poolHead, head(-1, 2)), store(linkAt(c, 5), last(), link(-1)), turn(poolHead, head(-1, 2), head(3, 3)))
		wantHand(t, g)
		wantPool(t, m, c, 3, 0, 5)
		if t.Failed() {
			t.Fatal(name)
		}
	}
}

// P13.3: two Gives at once, of one supply and of two: the one that comes later stands its own upon the other's.
func TestTwoGivesAtOnce(t *testing.T) {
	for _, one := range []bool{true, false} {
		c := sized(9, 1, 2)
		m, s := pooled(t, c, 6)
		r := s
		if !one {
			r = over(t, m, c)
		}
		s.Put(1, 4)
		g := s.All()
		r.Put(2, 5, 3)
		h := r.Spill()
		wantHand(t, g, 1, 4)
		wantHand(t, h, 2, 5)
		all := pushes(m, c, 6, 0, 1, 4)
		wantSteps(t, m, g, false, all[:3]...)
		wantSteps(t, m, h, true, pushes(m, c, 6, 0, 2, 5)...)
		wantHand(t, g, 1, 4)
		wantSteps(t, m, g, false, missed(poolHead, head(2, 1)))
		wantSteps(t, m, g, true, load(poolHead, head(2, 1)), store(linkAt(c, 4), link(6), link(2)), turn(poolHead, head(2, 1), head(1, 2)))
		wantPool(t, m, c, 1, 4, 2, 5, 6)
		wantStash(t, r, 3)
	}
}

// P13.2, P13.3: a Take and a Give of one supply at once: what is being pushed can't be taken ahead of the end.
func TestTakeBesideAGive(t *testing.T) {
	c := sized(9, 0, 2)
	m, s := pooled(t, c)
	s.Put(1, 4)
	g := s.Spill()
	k := taking(t, m, s)
	all := pushes(m, c, -1, 0, 1, 4)
	wantSteps(t, m, g, false, all[:3]...)
	wantSteps(t, m, k, true, load(poolHead, 0))
	wantNone(t, k)
	k = taking(t, m, s)
	wantSteps(t, m, g, true, all[3])
	wantSteps(t, m, k, true, pops(c, 2, 1, 1, 4)...)
	wantChunk(t, k, 1)
	wantStash(t, s, 4)
}

// P0.1: in cells into which others write whatever they like, and with chunks that are none, each call ends, and each machine, when it is let alone.
func TestAmongOthersWhoWriteAnything(t *testing.T) {
	for seed := range 60 {
		c := sized([]int{1, 2, 5, 30}[seed%4], seed%3, 1+seed%8)
		m, s := pooled(t, c, span(0, c.Chunks)...)
		d := draw(seed + 1)
		odd := []uint64{0, 1, 2, uint64(c.Chunks), uint64(c.Chunks + 1), 1 << 32, 1<<62 + 5, 1 << 63, math.MaxUint64}
		var l []machine
		for range 500 {
			switch d.below(9) {
			case 0:
				m.Lay([]int{poolHead, epochAt, linkAt(c, d.below(c.Chunks))}[d.below(3)], odd[d.below(len(odd))])
			case 1:
				m.Lay(linkAt(c, d.below(c.Chunks)), link(d.below(c.Chunks)))
			case 2:
				s.Put(d.below(c.Chunks+2) - 1)
			case 3:
				s.Retire(int(min(m.Peek(epochAt), api.MaxEpoch)), d.below(c.Chunks+2)-1)
			case 4:
				l = append(l, s.Take())
			case 5:
				l = append(l, ways[[]string{"Spill", "All"}[d.below(2)]](s))
			default:
				if len(l) > 0 {
					l[d.below(len(l))].Step()
				}
			}
		}
		for _, x := range l {
			through(t, m, x)
		}
	}
}

// draw is a number below n, by a fixed rule.
type draw uint64

func (d *draw) below(n int) int {
	*d = *d*6364136223846793005 + 1442695040888963407
	return int(*d>>33) % n
}
