package grant_test

import (
	"testing"

	"rundale/api"
	"rundale/grant"
)

// P14.1: a region that is no more, or not yet, or another one: one Load, which is the Point. The pool is not asked.
func TestAllocOfWhatIsStale(t *testing.T) {
	c := sized(8, 1, 1)
	for _, e := range []struct {
		w   uint64
		gen int
	}{
		{0, 0}, {0, 1}, {0, -1}, {0, 1 << 32},
		{marked(1, 0, 0, 0), 1}, {marked(1, 0, 2, 3), 1}, {marked(api.MaxTag, 0, 0, 0), api.MaxTag},
		{root(2, -1, 0, 0), 1}, {root(2, -1, 0, 0), 3}, {root(1, 3, 0, 2), 2}, {root(3, 3, 0, 2), 2},
		{root(1, 3, 0, 2), 0}, {root(1, 3, 0, 2), -1}, {root(1, 3, 0, 2), 1<<32 + 1}, {root(0, 3, 0, 2), 1 << 32},
		{root(api.MaxTag, 3, 0, 2), -1}, {root(api.MaxTag, 3, 0, 2), api.MaxTag - 1}, {root(api.MaxTag, 3, 0, 2), api.MaxTag + 1},
	} {
		for _, n := range []int{1, 4, 8} {
			y := laid(t, c, e.w, 0, 1)
			y.closes(y.alloc(e.gen, n), y.loadRoot(e.w), api.Stale, api.Handle{})
			y.wantPool(0, 1)
		}
		for _, gen := range extremes {
			y := laid(t, c, e.w, 0, 1)
			y.closes(y.alloc(gen, 1), y.loadRoot(e.w), api.Stale, api.Handle{})
		}
	}
}

// P14.1: a region of any generation is one, the least and the greatest too.
func TestAllocOfEachGeneration(t *testing.T) {
	for _, gen := range []int{0, 1, 2, 1 << 16, 1 << 31, api.MaxTag - 1, api.MaxTag} {
		y := laid(t, sized(8, 1, 1), root(gen, 3, 0, 2))
		a := y.alloc(gen, 4)
		y.goes(a, y.loadRoot(root(gen, 3, 0, 2)))
		y.closes(a, y.turnRoot(root(gen, 3, 0, 2), root(gen, 3, 0, 6)), api.Fine, object(gen, 3, 2, 4))
	}
}

// P14.1: of each slot, by its own root; the others stay.
func TestAllocOfEachSlot(t *testing.T) {
	c := sized(8, 1, 1)
	for slot := range c.Slots {
		y := laid(t, c, 0)
		for i := range c.Slots {
			y.m.Lay(rootAt(c, i), root(5, i, 0, 1+i))
		}
		a := y.allocBy(y.s, slot, 5, 3)
		was := root(5, slot, 0, 1+slot)
		y.goes(a, load(rootAt(c, slot), was))
		y.closes(a, turn(rootAt(c, slot), was, root(5, slot, 0, 4+slot)), api.Fine, api.Handle{Slot: slot, Gen: 5, Chunk: slot, Off: 1 + slot, Len: 3})
	}
}

// rounded is how many words n are in a region of that class.
func rounded(class, n int) int {
	for n%(1<<class) != 0 {
		n++
	}
	return n
}

// isAlone: it needs more than half of a chunk.
func isAlone(c api.Config, need int) bool { return 2*need > c.Words }

// P14.1: every Off and every n, of each class: is there room, a Load and an exchange; else a new chunk, ahead of the one that there was.
func TestAllocAtEachPlace(t *testing.T) {
	for _, c := range []api.Config{sized(8, 0, 1), sized(16, 0, 1), sized(24, 0, 1)} {
		for class := range 4 {
			for off := range c.Words + 1 {
				for n := 1; n <= c.Words; n++ {
					y := laid(t, c, root(7, 2, class, off), 4, 6)
					need := rounded(class, n)
					a := y.alloc(7, n)
					if !isAlone(c, need) && off+need <= c.Words {
						y.goes(a, y.loadRoot(root(7, 2, class, off)))
						y.closes(a, y.turnRoot(root(7, 2, class, off), root(7, 2, class, off+need)), api.Fine, object(7, 2, off, n))
						y.wantPool(4, 6)
					} else {
						y.wantNewChunk(a, n)
					}
				}
			}
		}
	}
}

// wantNewChunk: the slot 1's region gets the chunk 4, from a pool of 4 and 6 of which one is taken at once.
func (y *world) wantNewChunk(a *grant.Alloc, n int) {
	y.t.Helper()
	w := y.m.Peek(rootAt(y.c, 1))
	gen, newest, class := int(w>>32), int(w>>16&0xffff)-2, int(w>>12&15)
	y.goes(a, y.loadRoot(w))
	y.wantTold(a, outcome{})
	y.goes(a, pops(y.c, 0, 4, 6)...)
	y.wantTold(a, outcome{hand: []int{4}})
	y.goes(a, y.clears(4)...)
	y.goes(a, y.links(4, newest))
	y.wantTold(a, outcome{hand: []int{4}})
	after := rounded(class, n)
	if isAlone(y.c, after) {
		after = y.c.Words
	}
	y.closes(a, y.turnRoot(w, root(gen, 4, class, after)), api.Fine, object(gen, 4, 0, n))
	y.wantPool(6)
}

// P14.1: the first chunk of a region that has none: its link is none. What Off is then counts for nothing.
func TestFirstChunk(t *testing.T) {
	for _, words := range []int{8, 16} {
		for class := range 4 {
			for n := 1; n <= words; n++ {
				for _, off := range []int{0, 1, words} {
					y := laid(t, sized(words, 0, 1), root(7, -1, class, off), 4, 6)
					y.wantNewChunk(y.alloc(7, n), n)
					if l := y.chains().List(4); len(l) != 1 {
						t.Errorf("the chain is %v", l)
					}
				}
			}
		}
	}
}

// P14.1: need that just fits, and one word more; in the greatest chunk, too.
func TestAllocThatJustFits(t *testing.T) {
	for _, words := range []int{8, 64, 1024} {
		for _, n := range []int{1, 2, words/2 - 1, words / 2} {
			c := sized(words, 0, 1)
			was := root(7, 2, 0, words-n)
			y := laid(t, c, was, 4, 6)
			a := y.alloc(7, n)
			y.goes(a, y.loadRoot(was))
			y.closes(a, y.turnRoot(was, root(7, 2, 0, words)), api.Fine, object(7, 2, words-n, n))

			y = laid(t, c, root(7, 2, 0, words-n+1), 4, 6)
			y.wantNewChunk(y.alloc(7, n), n)
		}
	}
}

// P14.1: more than half of a chunk stands alone, though there be room behind Off; behind it there is none.
func TestAllocThatStandsAlone(t *testing.T) {
	for _, words := range []int{8, 64, 1024} {
		for _, n := range []int{words/2 + 1, words/2 + 2, words - 1, words} {
			c := sized(words, 0, 1)
			y := laid(t, c, root(7, 2, 0, 0), 4, 6)
			y.wantNewChunk(y.alloc(7, n), n)
			y.wantRoot(root(7, 4, 0, words))
			a := y.alloc(7, 1)
			y.goes(a, y.loadRoot(root(7, 4, 0, words)))
			y.goes(a, pops(c, 1, 6)...)
			y.goes(a, y.clears(6)...)
			y.goes(a, y.links(6, 4))
			y.closes(a, y.turnRoot(root(7, 4, 0, words), root(7, 6, 0, 1)), api.Fine, object(7, 6, 0, 1))
			if l := y.chains().List(6); len(l) != 3 || l[0] != 6 || l[1] != 4 || l[2] != 2 {
				t.Errorf("the chain is %v, want 6, 4, 2", l)
			}
		}
	}
}

// P14.1: the class makes it stand alone: 3 words are 8 in class 3, more than half of 8 and just half of 16.
func TestAllocThatItsClassMakesStandAlone(t *testing.T) {
	y := laid(t, sized(8, 0, 1), root(7, 2, 3, 0), 4, 6)
	y.wantNewChunk(y.alloc(7, 3), 3)
	y.wantRoot(root(7, 4, 3, 8))
	y = laid(t, sized(16, 0, 1), root(7, 2, 3, 8), 4, 6)
	a := y.alloc(7, 3)
	y.goes(a, y.loadRoot(root(7, 2, 3, 8)))
	y.closes(a, y.turnRoot(root(7, 2, 3, 8), root(7, 2, 3, 16)), api.Fine, object(7, 2, 8, 3))
}

// P14.1: the least and the greatest chunk, behind the least and the greatest, of the greatest configuration.
func TestNewChunkOfEachNumber(t *testing.T) {
	c := configs[5]
	for _, newest := range []int{-1, 0, 1, c.Chunks - 1} {
		for _, chunk := range []int{2, c.Chunks - 2} {
			was := root(api.MaxTag, newest, 3, c.Words)
			y := laid(t, c, was, chunk)
			a := y.alloc(api.MaxTag, c.Words)
			y.goes(a, y.loadRoot(was))
			y.goes(a, pops(c, 0, chunk)...)
			y.goes(a, y.clears(chunk)...)
			y.goes(a, y.links(chunk, newest))
			y.closes(a, y.turnRoot(was, root(api.MaxTag, chunk, 3, c.Words)), api.Fine, object(api.MaxTag, chunk, 0, c.Words))
		}
	}
}

// P14.1, P14.2: what is kept is at hand behind the Load of the root, without an access. What the supply keeps beside it stays.
func TestNewChunkOfWhatIsKept(t *testing.T) {
	y := laid(t, sized(8, 2, 1), root(7, 2, 0, 8), 5)
	y.s.Put(0, 6, 3)
	a := y.alloc(7, 2)
	wantStash(t, y.s, 0, 6, 3)
	y.goes(a, y.loadRoot(root(7, 2, 0, 8)))
	y.wantTold(a, outcome{hand: []int{3}})
	wantStash(t, y.s, 0, 6)
	y.goes(a, y.clears(3)...)
	y.goes(a, y.links(3, 2))
	y.closes(a, y.turnRoot(root(7, 2, 0, 8), root(7, 3, 0, 2)), api.Fine, object(7, 3, 0, 2))
	wantStash(t, y.s, 0, 6)
	y.wantPool(5)
}

// P14.1: the chunk 0, which looks like none, in hand and as the newest.
func TestChunkZero(t *testing.T) {
	y := laid(t, sized(8, 2, 1), root(7, -1, 0, 0), 5)
	y.s.Put(0)
	a := y.alloc(7, 5)
	y.goes(a, y.loadRoot(root(7, -1, 0, 0)))
	y.wantTold(a, outcome{hand: []int{0}})
	y.goes(a, y.clears(0)...)
	y.goes(a, y.links(0, -1))
	y.closes(a, y.turnRoot(root(7, -1, 0, 0), root(7, 0, 0, 8)), api.Fine, object(7, 0, 0, 5))
	a = y.alloc(7, 1)
	y.goes(a, y.loadRoot(root(7, 0, 0, 8)))
	y.goes(a, pops(y.c, 0, 5)...)
	y.goes(a, y.clears(5)...)
	y.goes(a, y.links(5, 0))
	y.closes(a, y.turnRoot(root(7, 0, 0, 8), root(7, 5, 0, 1)), api.Fine, object(7, 5, 0, 1))
}

// P14.1: what waits may go: behind the Load of the epoch the chunk is at hand. May it not, the pool is asked.
func TestNewChunkOfWhatWaits(t *testing.T) {
	for now := range 6 {
		y := laid(t, sized(8, 2, 1), root(7, 2, 0, 8), 5)
		y.m.Lay(epochAt, uint64(now))
		if code := y.s.Retire(2, 0, 6); code != api.Fine {
			t.Fatal("Retire:", code)
		}
		a := y.alloc(7, 2)
		y.goes(a, y.loadRoot(root(7, 2, 0, 8)))
		y.wantTold(a, outcome{})
		y.goes(a, load(epochAt, uint64(now)))
		chunk := 6
		if now < 4 {
			y.wantTold(a, outcome{})
			y.goes(a, pops(y.c, 0, 5)...)
			chunk = 5
		}
		y.wantTold(a, outcome{hand: []int{chunk}})
		y.goes(a, y.clears(chunk)...)
		y.goes(a, y.links(chunk, 2))
		y.closes(a, y.turnRoot(root(7, 2, 0, 8), root(7, chunk, 0, 2)), api.Fine, object(7, chunk, 0, 2))
		if now >= 4 {
			wantStash(t, y.s, 0)
			y.wantPool(5)
		}
	}
}

// P14.1, P14.2: several are taken at once: the first one is in hand, the others are kept; those that are too many are pushed behind the Point.
func TestNewChunkOfABatch(t *testing.T) {
	for cache := range 5 {
		y := laid(t, sized(8, cache, 4), root(7, 8, 1, 8), 5, 2, 7, 0, 3)
		a := y.alloc(7, 3)
		y.goes(a, y.loadRoot(root(7, 8, 1, 8)))
		all := pops(y.c, 0, 5, 2, 7, 0, 3)
		y.goes(a, all[:len(all)-1]...)
		y.wantTold(a, outcome{})
		wantStash(t, y.s)
		y.goes(a, all[len(all)-1])
		y.wantTold(a, outcome{hand: []int{5}})
		wantStash(t, y.s, 2, 7, 0)
		y.goes(a, y.clears(5)...)
		y.goes(a, y.links(5, 8))
		over := max(3-cache, 0)
		y.closes(a, y.turnRoot(root(7, 8, 1, 8), root(7, 5, 1, 4)), api.Fine, object(7, 5, 0, 3), []int{2, 7, 0}[:over]...)
		wantStash(t, y.s, []int{2, 7, 0}[over:]...)
		y.wantPool(append([]int{2, 7, 0}[:over:over], 3)...)
	}
}

// P14.2: what the supply keeps too many of is pushed at each closing, be a chunk needed or not.
func TestSpillAtEachClosing(t *testing.T) {
	c := sized(8, 1, 2)
	y := laid(t, c, root(7, 8, 0, 3), 4)
	y.s.Put(2, 0, 5)
	a := y.alloc(7, 2)
	y.goes(a, y.loadRoot(root(7, 8, 0, 3)))
	wantStash(t, y.s, 2, 0, 5)
	y.closes(a, y.turnRoot(root(7, 8, 0, 3), root(7, 8, 0, 5)), api.Fine, object(7, 8, 3, 2), 2, 0)
	wantStash(t, y.s, 5)
	y.wantPool(2, 0, 4)

	y = laid(t, c, root(7, 8, 0, 3), 4)
	y.s.Put(2, 0, 5)
	y.closes(y.alloc(6, 2), y.loadRoot(root(7, 8, 0, 3)), api.Stale, api.Handle{}, 2, 0)
	wantStash(t, y.s, 5)
	y.wantPool(2, 0, 4)

	y = laid(t, c, root(7, 8, 0, 8))
	a = y.alloc(7, 2)
	y.goes(a, y.loadRoot(root(7, 8, 0, 8)), load(poolHead, 0))
	y.s.Put(2, 0, 5)
	y.closes(a, y.loadRoot(root(7, 8, 0, 8)), api.OutOfMemory, api.Handle{}, 2, 0)
	wantStash(t, y.s, 5)
	y.wantPool(2, 0)
}

// P14.1: nothing is left: the root is looked at once more, and that Load is the Point. Nothing is in its hand ever.
func TestAllocOfNoMemory(t *testing.T) {
	for _, w := range []uint64{root(7, -1, 0, 0), root(7, 2, 0, 8), root(7, 2, 0, 5)} {
		for _, n := range []int{4, 5, 8} {
			y := laid(t, sized(8, 1, 2), w)
			a := y.alloc(7, n)
			y.goes(a, y.loadRoot(w))
			y.wantTold(a, outcome{})
			y.goes(a, load(poolHead, 0))
			y.wantTold(a, outcome{})
			y.closes(a, y.loadRoot(w), api.OutOfMemory, api.Handle{})
			if a.Point() != 3 {
				t.Errorf("Point = %d, want 3", a.Point())
			}
			y.wantRoot(w)
		}
	}
}

// P14.1: what waits may not go yet, and the pool is empty: it is asked behind the Load of the epoch.
func TestAllocOfNoMemoryWhileSomeWaits(t *testing.T) {
	w := root(7, 2, 0, 8)
	y := laid(t, sized(8, 1, 2), w)
	y.m.Lay(epochAt, 4)
	if code := y.s.Retire(3, 1); code != api.Fine {
		t.Fatal("Retire:", code)
	}
	a := y.alloc(7, 1)
	y.goes(a, y.loadRoot(w), load(epochAt, 4), load(poolHead, 0))
	y.m.Lay(epochAt, 5)
	y.closes(a, y.loadRoot(w), api.OutOfMemory, api.Handle{})
	if tag, l := y.s.Bucket(0); tag != 3 || len(l) != 1 {
		t.Errorf("Bucket(0) = %d, %v", tag, l)
	}
	a = y.alloc(7, 1)
	y.goes(a, y.loadRoot(w), load(epochAt, 5))
	y.wantTold(a, outcome{hand: []int{1}})
}

// P14.1, P14.3: one behind the other, until nothing is left: each one's place is behind the elder ones', or in a new chunk.
func TestAllocUntilNothingIsLeft(t *testing.T) {
	for class := range 4 {
		for batch := 1; batch <= 8; batch++ {
			c := sized(16, batch%3, batch)
			y := laid(t, c, root(7, -1, class, 0), span(0, 9)...)
			given, off, n := 0, 16, 1
			for ; given < 200; given++ {
				need := rounded(class, n)
				a := y.alloc(7, n)
				through(t, y.m, a)
				if a.Code() == api.OutOfMemory {
					break
				}
				if off+need > 16 || isAlone(c, need) {
					off = 0
				}
				if o := a.Object(); o.Off != off || o.Len != n || o.Gen != 7 || o.Slot != 1 {
					t.Fatalf("class %d, batch %d: given away is %+v, want %d words from %d on", class, batch, o, n, off)
				}
				off += need
				if isAlone(c, need) {
					off = 16
				}
				n = n*5%16 + 1
			}
			chain := y.chains().List(int(y.m.Peek(rootAt(c, 1))>>16&0xffff) - 2)
			if len(chain) != 9 || given < 9 {
				t.Errorf("class %d, batch %d: %d objects, the chain %v", class, batch, given, chain)
			}
			y.wantPool()
			wantStash(t, y.s)
		}
	}
}

// P14.1, P0.5: two grants of the same cells, and two supplies: what the one does the other sees.
func TestTwoOverTheSameCells(t *testing.T) {
	y := laid(t, sized(8, 1, 1), root(7, -1, 0, 0), 4, 6)
	z := worldOver(t, y.m, y.c)
	y.wantNewChunk(y.alloc(7, 3), 3)
	a := z.alloc(7, 4)
	z.goes(a, z.loadRoot(root(7, 4, 0, 3)))
	z.closes(a, z.turnRoot(root(7, 4, 0, 3), root(7, 4, 0, 7)), api.Fine, object(7, 4, 3, 4))
	a = y.alloc(7, 1)
	y.goes(a, y.loadRoot(root(7, 4, 0, 7)))
	y.closes(a, y.turnRoot(root(7, 4, 0, 7), root(7, 4, 0, 8)), api.Fine, object(7, 4, 7, 1))
}
