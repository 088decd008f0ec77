package grant_test

import (
	"math"
	"slices"
	"testing"

	"rundale/api"
	"rundale/cells"
	"rundale/chain"
	"rundale/grant"
	"rundale/roots"
)

// lays has others turn the slot 1's root.
func (y *world) lays(w uint64) { y.m.Lay(rootAt(y.c, 1), w) }

// empties has others take all that the pool has.
func (y *world) empties() {
	y.t.Helper()
	for len(y.chains().Pool().List()) > 0 {
		through(y.t, y.m, y.chains().Pool().Pop(api.MaxBatch))
	}
}

// fills has others push chunks onto the pool.
func (y *world) fills(l ...int) {
	y.t.Helper()
	p, code := y.chains().Pool().Push(l...)
	if code != api.Fine {
		y.t.Fatal("Push:", code)
	}
	through(y.t, y.m, p)
}

// withChunk is an Alloc of n words with the chunk 4 in hand, its words written and its link stored: the exchange is next. The region had no room: its newest chunk was 2.
func (y *world) withChunk(n int) *grant.Alloc {
	y.t.Helper()
	w := root(7, 2, 0, y.c.Words)
	y.lays(w)
	y.empties()
	y.fills(4)
	tag := int(y.m.Peek(poolHead) >> 32)
	a := y.alloc(7, n)
	y.goes(a, y.loadRoot(w))
	y.goes(a, pops(y.c, tag, 4)...)
	y.goes(a, y.clears(4)...)
	y.goes(a, y.links(4, 2))
	y.wantTold(a, outcome{hand: []int{4}})
	return a
}

// P14.1: an exchange without a chunk in hand fails, and another one: again from the Load, behind the Off that there is then.
func TestExchangeOfOffFails(t *testing.T) {
	y := laid(t, sized(16, 1, 1), root(7, 2, 1, 2), 4)
	a := y.alloc(7, 3)
	for _, off := range []int{2, 4, 10} {
		y.lays(root(7, 2, 1, off))
		y.goes(a, y.loadRoot(root(7, 2, 1, off)))
		y.lays(root(7, 2, 1, off+2))
		y.goes(a, y.missRoot(root(7, 2, 1, off+2)))
		y.wantTold(a, outcome{})
	}
	y.goes(a, y.loadRoot(root(7, 2, 1, 12)))
	y.closes(a, y.turnRoot(root(7, 2, 1, 12), root(7, 2, 1, 16)), api.Fine, object(7, 2, 12, 3))
	if a.Point() != 8 {
		t.Errorf("Point = %d, want 8", a.Point())
	}
}

// P14.1: it fails, and there is no room any more: a chunk is asked for then. Or another chunk is the newest by then, and has room.
func TestExchangeOfOffFailsForAnotherChunk(t *testing.T) {
	y := laid(t, sized(8, 0, 1), root(7, 2, 0, 5), 4, 6)
	a := y.alloc(7, 3)
	y.goes(a, y.loadRoot(root(7, 2, 0, 5)))
	y.lays(root(7, 2, 0, 6))
	y.goes(a, y.missRoot(root(7, 2, 0, 6)))
	y.wantNewChunk(a, 3)
	if a.Point() != 2+14 {
		t.Errorf("Point = %d, want 16", a.Point())
	}

	y = laid(t, sized(8, 0, 1), root(7, 2, 0, 5), 4, 6)
	a = y.alloc(7, 3)
	y.goes(a, y.loadRoot(root(7, 2, 0, 5)))
	y.lays(root(7, 8, 0, 1))
	y.goes(a, y.missRoot(root(7, 8, 0, 1)), y.loadRoot(root(7, 8, 0, 1)))
	y.closes(a, y.turnRoot(root(7, 8, 0, 1), root(7, 8, 0, 4)), api.Fine, object(7, 8, 1, 3))
}

// ends are roots of a slot whose region of generation 7 is no more.
var ends = []uint64{marked(7, 0, 0, 0), root(8, -1, 0, 0), root(8, 2, 0, 5), root(8, 2, 0, 1), 0}

// P14.1: it fails, since the region is no more: Stale, behind that Load; though the slot have the next region, with the same chunk.
func TestExchangeOfOffFailsForTheEnd(t *testing.T) {
	for _, w := range ends {
		y := laid(t, sized(8, 0, 1), root(7, 2, 0, 5), 4, 6)
		a := y.alloc(7, 3)
		y.goes(a, y.loadRoot(root(7, 2, 0, 5)))
		y.lays(w)
		y.goes(a, y.missRoot(w))
		y.closes(a, y.loadRoot(w), api.Stale, api.Handle{})
		y.wantPool(4, 6)
		y.wantRoot(w)
	}
}

// P14.1: an exchange with a chunk in hand fails, and others, whatever words its own were turned into: again from the Load; the words are not written a second time, the link is the newest chunk that was loaded last.
func TestExchangeOfMarkFails(t *testing.T) {
	for _, last := range []uint64{root(7, 2, 0, 7), root(7, 1, 0, 8), root(7, 0, 0, 6), root(7, 8, 0, 8), root(7, -1, 0, 0)} {
		y := laid(t, sized(8, 0, 1), 0)
		a := y.withChunk(3)
		for at := range 8 {
			y.m.Lay(wordAt(y.c, 4, at), uint64(500+at))
		}
		for _, w := range []uint64{root(7, 3, 0, 6), root(7, 3, 0, 8), root(7, 5, 0, 8), last} {
			y.lays(w)
			y.goes(a, y.missRoot(w))
			y.wantTold(a, outcome{hand: []int{4}})
			y.goes(a, y.loadRoot(w))
			y.goes(a, y.links(4, int(w>>16&0xffff)-2))
			y.wantTold(a, outcome{hand: []int{4}})
		}
		y.closes(a, y.turnRoot(last, root(7, 4, 0, 3)), api.Fine, object(7, 4, 0, 3))
		for at := range 8 {
			if v := y.m.Peek(wordAt(y.c, 4, at)); v != uint64(500+at) {
				t.Errorf("the word %d is written again: %d", at, v)
			}
		}
		y.wantPool()
		wantStash(t, y.s)
	}
}

// P14.1, P14.2: the region has room again, in another one's chunk: the object is of that one; the chunk in hand is Put behind what is kept, and the first ones that are too many are pushed.
func TestChunkInHandWhenThereIsRoom(t *testing.T) {
	for _, e := range []struct {
		cache              int
		kept, spilt, stays []int
	}{
		{0, nil, []int{4}, nil},
		{1, nil, nil, []int{4}},
		{1, []int{0}, []int{0}, []int{4}},
		{2, []int{0}, nil, []int{0, 4}},
		{1, []int{3, 0, 6}, []int{3, 0, 6}, []int{4}},
		{0, []int{3, 0, 6}, []int{3, 0, 6, 4}, nil},
		{64, []int{3, 0, 6}, nil, []int{3, 0, 6, 4}},
	} {
		y := laid(t, sized(8, e.cache, 1), 0)
		a := y.withChunk(3)
		y.s.Put(e.kept...)
		w := root(7, 8, 0, 5)
		y.lays(w)
		y.goes(a, y.missRoot(w), y.loadRoot(w))
		y.wantTold(a, outcome{hand: []int{4}})
		wantStash(t, y.s, e.kept...)
		y.closes(a, y.turnRoot(w, root(7, 8, 0, 8)), api.Fine, object(7, 8, 5, 3), e.spilt...)
		wantStash(t, y.s, e.stays...)
		y.wantPool(e.spilt...)
	}
}

// P14.1, P14.2: the region is no more, when it has a chunk in hand: Stale, behind that Load; the chunk goes back.
func TestChunkInHandWhenTheRegionIsNoMore(t *testing.T) {
	for _, w := range ends {
		for cache := range 2 {
			y := laid(t, sized(8, cache, 1), 0)
			a := y.withChunk(3)
			y.lays(w)
			y.goes(a, y.missRoot(w))
			y.wantTold(a, outcome{hand: []int{4}})
			y.closes(a, y.loadRoot(w), api.Stale, api.Handle{}, []int{4}[:1-cache]...)
			wantStash(t, y.s, []int{4}[1-cache:]...)
			y.wantPool([]int{4}[:1-cache]...)
			y.wantRoot(w)
		}
	}
}

// P14.1: there was room again, but that exchange fails too: the chunk is in hand still, whatever comes then. It does not ask a second time.
func TestChunkInHandWhenTheRoomIsGone(t *testing.T) {
	room, full := root(7, 8, 0, 5), root(7, 8, 0, 6)
	begin := func() (*world, *grant.Alloc) {
		y := laid(t, sized(8, 0, 1), 0)
		a := y.withChunk(3)
		y.fills(6)
		y.lays(room)
		y.goes(a, y.missRoot(room), y.loadRoot(room))
		y.lays(full)
		y.goes(a, y.missRoot(full))
		y.wantTold(a, outcome{hand: []int{4}})
		return y, a
	}
	y, a := begin()
	y.goes(a, y.loadRoot(full))
	y.wantTold(a, outcome{hand: []int{4}})
	y.goes(a, y.links(4, 8))
	y.closes(a, y.turnRoot(full, root(7, 4, 0, 3)), api.Fine, object(7, 4, 0, 3))
	y.wantPool(6)

	y, a = begin()
	y.lays(room)
	y.goes(a, y.loadRoot(room))
	y.closes(a, y.turnRoot(room, root(7, 8, 0, 8)), api.Fine, object(7, 8, 5, 3), 4)
	y.wantPool(4, 6)

	y, a = begin()
	y.lays(ends[0])
	y.closes(a, y.loadRoot(ends[0]), api.Stale, api.Handle{}, 4)
	y.wantPool(4, 6)
}

// P14.1: one that stands alone goes by no room, though there be some: its own chunk is the newest.
func TestAloneAmongOthers(t *testing.T) {
	y := laid(t, sized(8, 0, 1), 0)
	a := y.withChunk(5)
	w := root(7, 8, 0, 1)
	y.lays(w)
	y.goes(a, y.missRoot(w), y.loadRoot(w), y.links(4, 8))
	y.closes(a, y.turnRoot(w, root(7, 4, 0, 8)), api.Fine, object(7, 4, 0, 5))
}

// P14.1: what others do to the root while a chunk is taken, written and linked is seen at the exchange alone; is it as it was by then, that is nothing.
func TestRootThatTurnsMeanwhile(t *testing.T) {
	was := root(7, 2, 0, 8)
	for asleep := range 13 {
		for _, w := range append(ends, root(7, 8, 0, 5), root(7, 8, 0, 8)) {
			for _, back := range []bool{true, false} {
				y := laid(t, sized(8, 0, 1), was, 4, 6)
				a := y.alloc(7, 3)
				all := slices.Concat([]cells.Access{y.loadRoot(was)}, pops(y.c, 0, 4, 6), y.clears(4), []cells.Access{y.links(4, 2)})
				y.goes(a, all[:1+asleep]...)
				y.lays(w)
				y.goes(a, all[1+asleep:]...)
				if back {
					y.lays(was)
					y.closes(a, y.turnRoot(was, root(7, 4, 0, 3)), api.Fine, object(7, 4, 0, 3))
				} else {
					y.goes(a, y.missRoot(w))
				}
			}
		}
	}
}

// P14.1: nothing was left, but room came in the meantime: it is looked for once more.
func TestRoomThatCameMeanwhile(t *testing.T) {
	w, room := root(7, 2, 0, 8), root(7, 8, 0, 5)
	begin := func() (*world, *grant.Alloc) {
		y := laid(t, sized(8, 0, 1), w)
		a := y.alloc(7, 3)
		y.goes(a, y.loadRoot(w), load(poolHead, 0))
		return y, a
	}
	y, a := begin()
	y.lays(room)
	y.goes(a, y.loadRoot(room))
	y.wantTold(a, outcome{})
	y.closes(a, y.turnRoot(room, root(7, 8, 0, 8)), api.Fine, object(7, 8, 5, 3))

	// Another one's chunk, but too small a place in it.
	y, a = begin()
	y.lays(root(7, 8, 0, 6))
	y.closes(a, y.loadRoot(root(7, 8, 0, 6)), api.OutOfMemory, api.Handle{})

	for _, end := range ends {
		y, a = begin()
		y.lays(end)
		y.closes(a, y.loadRoot(end), api.Stale, api.Handle{})
		if a.Point() != 3 {
			t.Errorf("Point = %d, want 3", a.Point())
		}
	}
}

// P14.1: the room that came is gone again at the exchange: as often as it comes it is tried; is it gone at a Load, there is no memory. The pool is not asked a second time, though it have a chunk by then.
func TestRoomThatCameAndWent(t *testing.T) {
	w := root(7, 2, 0, 8)
	y := laid(t, sized(8, 0, 1), w)
	a := y.alloc(7, 2)
	y.goes(a, y.loadRoot(w), load(poolHead, 0))
	y.fills(4, 6)
	y.s.Put(5)
	for off := 1; off < 5; off++ {
		y.lays(root(7, 8, 0, off))
		y.goes(a, y.loadRoot(root(7, 8, 0, off)))
		y.lays(root(7, 8, 0, off+1))
		y.goes(a, y.missRoot(root(7, 8, 0, off+1)))
		y.wantTold(a, outcome{})
	}
	y.lays(root(7, 8, 0, 7))
	y.closes(a, y.loadRoot(root(7, 8, 0, 7)), api.OutOfMemory, api.Handle{}, 5)
	if a.Point() != 2+8+1 {
		t.Errorf("Point = %d, want 11", a.Point())
	}
	y.wantPool(5, 4, 6)
	a = y.alloc(7, 2)
	y.goes(a, y.loadRoot(root(7, 8, 0, 7)), load(poolHead, head(5, 2)))
}

// P14.1: others empty the pool between: the exchange of the Pop fails, and none is left. And they turn it, so that it is another chunk.
func TestPoolThatOthersTurn(t *testing.T) {
	w := root(7, 2, 0, 8)
	y := laid(t, sized(8, 0, 1), w, 4, 6)
	a := y.alloc(7, 2)
	y.goes(a, y.loadRoot(w))
	y.goes(a, pops(y.c, 0, 4, 6)[:2]...)
	y.empties()
	y.goes(a, missed(poolHead, head(-1, 1)), load(poolHead, head(-1, 1)))
	y.wantTold(a, outcome{})
	y.closes(a, y.loadRoot(w), api.OutOfMemory, api.Handle{})
	if a.Point() != 6 {
		t.Errorf("Point = %d, want 6", a.Point())
	}

	y = laid(t, sized(8, 0, 1), w, 4, 6, 3)
	a = y.alloc(7, 2)
	y.goes(a, y.loadRoot(w))
	y.goes(a, pops(y.c, 0, 4, 6)[:2]...)
	through(t, y.m, y.chains().Pool().Pop(1))
	y.goes(a, missed(poolHead, head(6, 1)))
	y.wantTold(a, outcome{})
	y.goes(a, pops(y.c, 1, 6, 3)...)
	y.wantTold(a, outcome{hand: []int{6}})
	y.goes(a, y.clears(6)...)
	y.goes(a, y.links(6, 2))
	y.closes(a, y.turnRoot(w, root(7, 6, 0, 2)), api.Fine, object(7, 6, 0, 2))
}

// P14.1, P0.7: the Take is made with the Load of the root: what is at hand then is taken then, what comes later is not looked for.
func TestTakeIsMadeWithTheLoad(t *testing.T) {
	w := root(7, 2, 0, 8)
	y := laid(t, sized(8, 4, 1), w, 4)
	a := y.alloc(7, 2)
	y.s.Put(5)
	y.goes(a, y.loadRoot(w))
	wantStash(t, y.s)
	y.wantTold(a, outcome{hand: []int{5}})

	a = y.alloc(7, 2)
	y.goes(a, y.loadRoot(w))
	y.s.Put(6)
	y.goes(a, pops(y.c, 0, 4)...)
	y.wantTold(a, outcome{hand: []int{4}})
	wantStash(t, y.s, 6)
}

// P14.2: an exchange of the Spill fails: again from the Load of the head. Until it is done what is being pushed is in hand, the Point stays, and Code and Object are nothing yet; what becomes of the region meanwhile is nothing to it.
func TestSpillWhoseExchangeFails(t *testing.T) {
	w := root(7, 2, 0, 3)
	y := laid(t, sized(8, 0, 1), w, 6, 8)
	y.s.Put(3, 0)
	a := y.alloc(7, 2)
	y.goes(a, y.loadRoot(w))
	all := pushes(y.m, y.c, 3, 0)
	y.step(a, y.turnRoot(w, root(7, 2, 0, 5)))
	going := outcome{point: 2, hand: []int{3, 0}}
	wantStash(t, y.s)
	y.lays(ends[0])
	for _, want := range all[:3] {
		y.wantTold(a, going)
		y.step(a, want)
	}
	through(t, y.m, y.chains().Pool().Pop(1))
	for _, want := range []cells.Access{missed(poolHead, head(8, 1)), load(poolHead, head(8, 1)), store(linkAt(y.c, 0), link(6), link(8))} {
		y.wantTold(a, going)
		y.step(a, want)
		if a.Done() {
			t.Fatal("it is done too early")
		}
	}
	y.wantTold(a, going)
	y.step(a, turn(poolHead, head(8, 1), head(3, 2)))
	y.wantTold(a, outcome{object: object(7, 2, 3, 2), point: 2})
	y.wantDone(a)
	y.wantPool(3, 0, 8)
}

// P14.1, P14.2, P14.3: two that took a chunk each for a region that had none, step by step beside one another: the first one's is the newest; the second one finds room there, or stands its own ahead.
func TestTwoAtOnce(t *testing.T) {
	for _, n := range []int{5, 6} {
		y := laid(t, sized(8, 1, 1), root(7, -1, 0, 0), 4, 6)
		s := y.another()
		a, b := y.alloc(7, 3), y.allocBy(s, 1, 7, n)
		y.goes(a, y.loadRoot(root(7, -1, 0, 0)))
		y.goes(b, y.loadRoot(root(7, -1, 0, 0)))
		y.goes(a, pops(y.c, 0, 4, 6)...)
		y.goes(b, pops(y.c, 1, 6)...)
		for at := range 8 {
			y.goes(a, y.clears(4)[at])
			y.goes(b, y.clears(6)[at])
		}
		y.goes(b, y.links(6, -1))
		y.goes(a, y.links(4, -1))
		y.closes(b, y.turnRoot(root(7, -1, 0, 0), root(7, 6, 0, 8)), api.Fine, object(7, 6, 0, n))
		y.goes(a, y.missRoot(root(7, 6, 0, 8)), y.loadRoot(root(7, 6, 0, 8)), y.links(4, 6))
		y.closes(a, y.turnRoot(root(7, 6, 0, 8), root(7, 4, 0, 3)), api.Fine, object(7, 4, 0, 3))

		y = laid(t, sized(8, 1, 1), root(7, -1, 0, 0), 4, 6)
		a, b = y.alloc(7, 2), y.allocBy(y.another(), 1, 7, n-2)
		for range 13 {
			a.Step()
			b.Step()
		}
		for range 3 { // its first exchange of the pool's head has failed
			b.Step()
		}
		y.did[a], y.did[b] = 13, 16
		y.closes(a, y.turnRoot(root(7, -1, 0, 0), root(7, 4, 0, 2)), api.Fine, object(7, 4, 0, 2))
		wantStash(t, y.s)
		y.goes(b, y.missRoot(root(7, 4, 0, 2)), y.loadRoot(root(7, 4, 0, 2)))
		y.closes(b, y.turnRoot(root(7, 4, 0, 2), root(7, 4, 0, n)), api.Fine, object(7, 4, 2, n-2))
		y.wantPool()
	}
}

// P14.1, P0.5: two of one supply at once: what the one leaves there the other may take; what is in its hand it can't.
func TestTwoOfOneSupply(t *testing.T) {
	w := root(7, 2, 0, 8)
	y := laid(t, sized(8, 1, 2), w, 4, 6)
	a, b := y.alloc(7, 3), y.alloc(7, 5)
	y.goes(a, y.loadRoot(w))
	y.goes(a, pops(y.c, 0, 4, 6)...)
	wantStash(t, y.s, 6)
	y.goes(b, y.loadRoot(w))
	wantStash(t, y.s)
	y.wantTold(a, outcome{hand: []int{4}})
	y.wantTold(b, outcome{hand: []int{6}})
	d := y.alloc(7, 1)
	y.goes(d, y.loadRoot(w), load(poolHead, head(-1, 1)))
	y.goes(b, y.clears(6)...)
	y.goes(b, y.links(6, 2))
	y.closes(b, y.turnRoot(w, root(7, 6, 0, 8)), api.Fine, object(7, 6, 0, 5))
	y.goes(a, y.clears(4)...)
	y.goes(a, y.links(4, 2), y.missRoot(root(7, 6, 0, 8)), y.loadRoot(root(7, 6, 0, 8)))
	y.goes(a, y.links(4, 6))
	y.closes(a, y.turnRoot(root(7, 6, 0, 8), root(7, 4, 0, 3)), api.Fine, object(7, 4, 0, 3))
	y.goes(d, y.loadRoot(root(7, 4, 0, 3)))
	y.closes(d, y.turnRoot(root(7, 4, 0, 3), root(7, 4, 0, 4)), api.Fine, object(7, 4, 3, 1))
}

// P14.1: one that sleeps at its exchange while the region ends, and the slot's next one gets the very chunk: that is another region. By the machines of the layers below.
func TestAllocThatSleeps(t *testing.T) {
	for asleep := range 15 {
		c := sized(8, 0, 1)
		m := made(t, size(c), 1<<40+777)
		r, _ := roots.New(m, c)
		x, _ := chain.New(m, c)
		r.Fill()
		x.Fill()
		y := worldOver(t, m, c)
		region := func() {
			k := r.Create(0)
			through(t, m, k)
		}
		region()
		sleeper, code := y.g.Alloc(y.s, 0, 1, 3)
		if code != api.Fine {
			t.Fatal("Alloc:", code)
		}
		for range asleep {
			sleeper.Step()
		}
		if asleep == 14 {
			y.wantTold(sleeper, outcome{object: api.Handle{Gen: 1, Len: 3}, point: 14})
			y.wantDone(sleeper)
			continue
		}
		e, _ := r.End(0, 1)
		through(t, m, e)
		b, _ := r.Back(0)
		through(t, m, b)
		region()
		other := y.allocBy(y.another(), 0, 2, 3)
		through(t, m, other)
		want, pool := api.Handle{Gen: 2, Chunk: 0, Len: 3}, span(1, 9)
		if asleep >= 4 {
			want.Chunk, pool = 1, append([]int{0}, span(2, 9)...)
		}
		y.wantTold(other, outcome{object: want, point: 14})
		through(t, m, sleeper)
		if sleeper.Code() != api.Stale || sleeper.Object() != (api.Handle{}) || r.Root(0).Gen != 2 || r.Root(0).Off != 3 {
			t.Errorf("asleep behind %d accesses: it tells %+v, the root is %+v", asleep, tells(sleeper), r.Root(0))
		}
		y.wantPool(pool...)
	}
}

// P14.1, P0.4: whatever is written into a Hand, no other one shows it, and the very chunks are used and pushed.
func TestHandIsNewMemory(t *testing.T) {
	y := laid(t, sized(8, 0, 1), 0)
	a := y.withChunk(3)
	spoil := func() {
		l, other := a.Hand(), a.Hand()
		was := slices.Clone(l)
		l = l[:cap(l)]
		for i := range l {
			l[i] = -77
		}
		if !slices.Equal(other, was) || !slices.Equal(a.Hand(), was) {
			t.Fatalf("other Hands turned to %v, %v, want %v", other, a.Hand(), was)
		}
	}
	spoil()
	y.s.Put(3, 0)
	w := root(7, 8, 0, 5)
	y.lays(w)
	y.goes(a, y.missRoot(w), y.loadRoot(w))
	spoil()
	all := pushes(y.m, y.c, 3, 0, 4)
	y.step(a, y.turnRoot(w, root(7, 8, 0, 8)))
	point := y.did[a]
	for _, want := range all {
		spoil()
		y.wantTold(a, outcome{point: point, hand: []int{3, 0, 4}})
		y.step(a, want)
	}
	y.wantPool(3, 0, 4)
}

// P0.1: in cells into which others write whatever they like, and with chunks that are none, or stand there twice, each call ends, and each machine, when it is let alone; each Step is one access.
func TestAmongOthersWhoWriteAnything(t *testing.T) {
	for seed := range 80 {
		c := sized(8, seed%3, 1+seed%8)
		c.Chunks = []int{1, 2, 5, 30}[seed%4]
		y := laid(t, c, root(1, -1, 0, 0), span(0, c.Chunks)...)
		d := draw(seed + 1)
		odd := []uint64{0, 1, 2, uint64(c.Chunks), uint64(c.Chunks + 1), 1 << 32, 1<<62 + 5, 1 << 63, math.MaxUint64, marked(1, 0xffff, 15, 3), marked(1, c.Chunks+2, 3, 0), marked(1, 4098, 2, 4), marked(1, 3, 9, 4095)}
		var l []*grant.Alloc
		for range 500 {
			switch d.below(8) {
			case 0:
				at := []int{poolHead, epochAt, rootAt(c, d.below(c.Slots)), linkAt(c, d.below(c.Chunks))}[d.below(4)]
				y.m.Lay(at, odd[d.below(len(odd))])
			case 1:
				y.lays(marked(d.below(3), d.below(c.Chunks+3), d.below(4), d.below(12)))
			case 2:
				y.s.Put([]int{-1, 0, c.Chunks - 1, c.Chunks, math.MinInt, math.MaxInt}[d.below(6)])
			case 3:
				y.s.Retire(int(min(y.m.Peek(epochAt), api.MaxEpoch)), d.below(c.Chunks+2)-1)
			case 4:
				if a, code := y.g.Alloc(y.s, d.below(5)-1, d.below(3), d.below(11)); code == api.Fine {
					l = append(l, a)
				}
			default:
				if len(l) > 0 {
					l[d.below(len(l))].Step()
				}
			}
		}
		for _, a := range l {
			through(t, y.m, a)
		}
	}
}

// P0.1: what was Put though it is no chunk is none: nothing of it is given away, and it is in no hand.
func TestChunkThatIsNone(t *testing.T) {
	w := root(7, 2, 0, 8)
	for _, chunk := range append([]int{-2, -1, 9, 10, 4096}, extremes...) {
		y := laid(t, sized(8, 0, 1), w)
		y.s.Put(chunk)
		a := y.alloc(7, 1)
		y.goes(a, y.loadRoot(w))
		y.wantTold(a, outcome{})
		y.closes(a, y.loadRoot(w), api.OutOfMemory, api.Handle{})
	}
}

// P0.1, P0.6: a root that names more chunks than there are: there is none behind the new one.
func TestRootOfNoChunk(t *testing.T) {
	for _, newest := range []int{9, 10, 4095} {
		y := laid(t, sized(8, 0, 1), root(7, newest, 0, 8), 4)
		a := y.alloc(7, 1)
		through(t, y.m, a)
		y.wantTold(a, outcome{object: object(7, 4, 0, 1), point: 14})
		if l := y.chains().List(4); len(l) != 1 {
			t.Errorf("the chain is %v", l)
		}
	}
}

// draw is a number below n, by a fixed rule.
type draw uint64

func (d *draw) below(n int) int {
	*d = *d*6364136223846793005 + 1442695040888963407
	return int(*d>>33) % n
}
