package roots_test

import (
	"math"
	"testing"

	"rundale/api"
	"rundale/cells"
	"rundale/roots"
	"rundale/word"
)

// gens are generations, and the one behind each.
var gens = map[int]int{0: 1, 1: 2, 7: 8, math.MaxInt32: math.MaxInt32 + 1, math.MaxInt32 + 1: math.MaxInt32 + 2, api.MaxTag - 1: api.MaxTag, api.MaxTag: 0}

// others are words of a root of generation 0: of no region, of one without a chunk and of ones with chunks, some of them no machine's.
var others = []uint64{
	0, root(0, 0, 3, 9), root(0, 1, 0, 0), root(0, 1, 3, 0), root(0, 2, 0, 0), root(0, 2, 1, 8), root(0, 4097, 3, 1024), root(0, 65535, 15, 4095),
}

// laid is filled roots of c, the root of the slot of which holds w.
func laid(t *testing.T, c api.Config, slot int, w uint64) (*cells.Cells, *roots.Roots) {
	t.Helper()
	m, r := filled(t, c)
	m.Lay(rootAt(c, slot), w)
	return m, r
}

// P11.2: the accesses in their order, of each slot in turn; the cells beside those that are told stay.
func TestCreateAccesses(t *testing.T) {
	for _, c := range configs[:5] {
		m, r := filled(t, c)
		for slot := range c.Slots {
			class := slot % 4
			words := held(m)
			is, next := head(slot, slot), head(slot+1, slot+1)
			if slot == c.Slots-1 {
				next = head(-1, slot+1)
			}
			x := creating(t, m, r, class)
			wantSteps(t, m, x, false, load(spareHead, is), load(linkAt(c, slot), m.Peek(linkAt(c, slot))))
			wantCame(t, x, outcome{chunk: -1})
			wantSpare(t, r, upTo(c.Slots)[slot:]...)
			wantSteps(t, m, x, false, turn(spareHead, is, next))
			wantCame(t, x, outcome{chunk: -1, point: 3})
			wantSpare(t, r, upTo(c.Slots)[slot+1:]...)
			wantRoot(t, r, slot, word.Root{})
			wantSteps(t, m, x, false, load(rootAt(c, slot), 0))
			wantCame(t, x, outcome{chunk: -1, point: 3})
			wantRoot(t, r, slot, word.Root{})
			wantSteps(t, m, x, true, store(rootAt(c, slot), 0, root(1, 1, class, 0)))
			wantCame(t, x, created(slot, 1, 3))
			wantRoot(t, r, slot, word.Root{Gen: 1, Mark: word.Bare, Class: class})
			words[spareHead], words[rootAt(c, slot)] = next, root(1, 1, class, 0)
			wantHeld(t, m, words)
		}
	}
}

// P11.2: nothing but the Gen is kept of what the root held; behind MaxTag comes 0.
func TestCreateOverEachRoot(t *testing.T) {
	c := slots(3)
	for gen, behind := range gens {
		for _, other := range others {
			w := root(gen, 0, 0, 0) | other
			m, r := laid(t, c, 0, w)
			x := creating(t, m, r, 2)
			wantSteps(t, m, x, true, load(spareHead, head(0, 0)), load(linkAt(c, 0), 2), turn(spareHead, head(0, 0), head(1, 1)),
				load(rootAt(c, 0), w), store(rootAt(c, 0), w, root(behind, 1, 2, 0)))
			wantCame(t, x, created(0, behind, 3))
			wantRoot(t, r, 0, word.Root{Gen: behind, Mark: word.Bare, Class: 2})
		}
	}
}

// P11.2: a class out of its bounds is cut.
func TestCreateOfEachClass(t *testing.T) {
	classes := map[int]int{-1: 0, -2: 0, 0: 0, 1: 1, 2: 2, 3: 3, 4: 3, 5: 3, 15: 3, 16: 3, 17: 3}
	for _, n := range extremes {
		classes[n] = 0
		if n > 0 {
			classes[n] = 3
		}
	}
	for class, cut := range classes {
		m, r := filled(t, slots(2))
		x := creating(t, m, r, class)
		through(t, m, x)
		wantCame(t, x, created(0, 1, 3))
		wantRoot(t, r, 0, word.Root{Gen: 1, Mark: word.Bare, Class: cut})
	}
}

// P11.2: no slot is spare: the Load of the head tells so.
func TestCreateOfNoSlot(t *testing.T) {
	c := slots(2)
	for _, empty := range []uint64{0, head(-1, 1), head(-1, api.MaxTag), head(2, 0), head(3, 5), math.MaxUint64} {
		m, r := filled(t, c)
		m.Lay(spareHead, empty)
		words := held(m)
		x := creating(t, m, r, 1)
		wantSteps(t, m, x, true, load(spareHead, empty))
		wantCame(t, x, none(1))
		wantUntouched(t, m, 1, words)
	}
}

// P11.2: each slot once, then none any more, until one comes back.
func TestCreateTillNoneIsLeft(t *testing.T) {
	for _, c := range configs {
		m, r := filled(t, c)
		for slot := range min(c.Slots, 50) {
			x := creating(t, m, r, 0)
			through(t, m, x)
			wantCame(t, x, created(slot, 1, 3))
		}
		if c.Slots > 50 {
			continue
		}
		for range 2 {
			x := creating(t, m, r, 0)
			through(t, m, x)
			wantCame(t, x, none(1))
		}
		through(t, m, ending(t, m, r, c.Slots-1, 1))
		through(t, m, backing(t, m, r, c.Slots-1))
		x := creating(t, m, r, 0)
		through(t, m, x)
		wantCame(t, x, created(c.Slots-1, 2, 3))
	}
}

// P11.2: an exchange that fails, more than once: its Point is the one that doesn't.
func TestCreateGoesOnFromTheHead(t *testing.T) {
	c := slots(4)
	m, r := filled(t, c)
	x := creating(t, m, r, 3)
	wantSteps(t, m, x, false, load(spareHead, head(0, 0)), load(linkAt(c, 0), 2))
	m.Lay(spareHead, head(1, 1))
	wantSteps(t, m, x, false, missed(spareHead, head(1, 1)))
	wantCame(t, x, outcome{chunk: -1})
	wantSteps(t, m, x, false, load(spareHead, head(1, 1)), load(linkAt(c, 1), 3))
	m.Lay(spareHead, head(1, 3))
	wantSteps(t, m, x, false, missed(spareHead, head(1, 3)))
	m.Lay(spareHead, head(2, 4))
	wantSteps(t, m, x, false, load(spareHead, head(2, 4)), load(linkAt(c, 2), 4), turn(spareHead, head(2, 4), head(3, 5)))
	wantCame(t, x, outcome{chunk: -1, point: 9})
	wantSteps(t, m, x, true, load(rootAt(c, 2), 0), store(rootAt(c, 2), 0, root(1, 1, 3, 0)))
	wantCame(t, x, created(2, 1, 9))
	for _, slot := range []int{0, 1, 3} {
		wantRoot(t, r, slot, word.Root{})
	}
}

// P11.2: none is left at the second look: its Point is that Load of the head.
func TestCreateFindsNoneAtTheSecondLook(t *testing.T) {
	c := slots(2)
	for _, empty := range []uint64{0, head(-1, 1), head(2, 1)} {
		m, r := filled(t, c)
		x := creating(t, m, r, 0)
		wantSteps(t, m, x, false, load(spareHead, head(0, 0)), load(linkAt(c, 0), 2))
		m.Lay(spareHead, empty)
		wantSteps(t, m, x, false, missed(spareHead, empty))
		wantCame(t, x, outcome{chunk: -1})
		wantSteps(t, m, x, true, load(spareHead, empty))
		wantCame(t, x, none(4))
		wantRoot(t, r, 0, word.Root{})
	}
}

// P11.2: what counts is what its Load of the root has told; what came of it stays, whatever comes behind.
func TestCreateGoesByWhatItLoaded(t *testing.T) {
	c := slots(2)
	m, r := laid(t, c, 0, root(4, 0, 0, 0))
	x := creating(t, m, r, 1)
	wantSteps(t, m, x, false, load(spareHead, head(0, 0)), load(linkAt(c, 0), 2), turn(spareHead, head(0, 0), head(1, 1)))
	m.Lay(rootAt(c, 0), root(20, 0, 0, 0))
	wantSteps(t, m, x, false, load(rootAt(c, 0), root(20, 0, 0, 0)))
	m.Lay(rootAt(c, 0), root(30, 5, 2, 7))
	wantSteps(t, m, x, true, store(rootAt(c, 0), root(30, 5, 2, 7), root(21, 1, 1, 0)))
	wantCame(t, x, created(0, 21, 3))
	r.Fill()
	through(t, m, creating(t, m, r, 2))
	wantDone(t, m, x)
	wantCame(t, x, created(0, 21, 3))
}

// looks are all there is to ask a slot's root for: a root's word, a generation, and whether it is Live with that.
func looks(each func(w uint64, gen int, live bool)) {
	for gen := range gens {
		for _, other := range others {
			w := root(gen, 0, 0, 0) | other
			mark := w >> 16 & 0xffff
			for asked := range gens {
				each(w, asked, asked == gen && mark > 0)
			}
			for _, asked := range append([]int{gen - 1, gen + 1, gen + 1<<32, gen - 1<<32, -gen - 1, ^gen}, extremes...) {
				each(w, asked, asked == gen && mark > 0)
			}
		}
	}
}

// P11.3
func TestLook(t *testing.T) {
	c := slots(3)
	looks(func(w uint64, gen int, live bool) {
		slot := int(w>>33) % 3
		m, r := laid(t, c, slot, w)
		words := held(m)
		x := looking(t, m, r, slot, gen)
		wantSteps(t, m, x, true, load(rootAt(c, slot), w))
		if live {
			wantCame(t, x, seen(int(w&0xfff)))
		} else {
			wantCame(t, x, stale(0))
		}
		wantHeld(t, m, words)
	})
}

// P11.3: each slot of several configurations.
func TestLookAtEachSlot(t *testing.T) {
	for _, c := range configs[:5] {
		for slot := range c.Slots {
			m, r := laid(t, c, slot, root(5, 3, 1, 6))
			x := looking(t, m, r, slot, 5)
			wantSteps(t, m, x, true, load(rootAt(c, slot), root(5, 3, 1, 6)))
			wantCame(t, x, seen(6))
			for other := range c.Slots {
				y := looking(t, m, r, other, 5)
				through(t, m, y)
				if other != slot {
					wantCame(t, y, stale(0))
				}
			}
		}
	}
}

// P11.3: what the root holds at its step counts, neither what it held as it was made nor what it holds behind it.
func TestLookGoesByWhatItLoaded(t *testing.T) {
	c := slots(2)
	m, r := laid(t, c, 1, root(5, 2, 0, 3))
	x, y, z := looking(t, m, r, 1, 5), looking(t, m, r, 1, 5), looking(t, m, r, 1, 6)
	m.Lay(rootAt(c, 1), root(5, 4, 0, 9))
	through(t, m, x)
	m.Lay(rootAt(c, 1), root(5, 0, 0, 0))
	through(t, m, y)
	m.Lay(rootAt(c, 1), root(6, 2, 0, 7))
	through(t, m, z)
	m.Lay(rootAt(c, 1), 0)
	for x, want := range map[machine]outcome{x: seen(9), y: stale(0), z: seen(7)} {
		wantDone(t, m, x)
		wantCame(t, x, want)
	}
}

// P11.4: the accesses, and what came of it, at each root and generation.
func TestEnd(t *testing.T) {
	c := slots(3)
	looks(func(w uint64, gen int, live bool) {
		slot := int(w>>33) % 3
		m, r := laid(t, c, slot, w)
		words := held(m)
		x := ending(t, m, r, slot, gen)
		if !live {
			wantSteps(t, m, x, true, load(rootAt(c, slot), w))
			wantCame(t, x, stale(1))
			wantHeld(t, m, words)
			return
		}
		words[rootAt(c, slot)] = root(gen, 0, 0, 0)
		wantSteps(t, m, x, true, load(rootAt(c, slot), w), turn(rootAt(c, slot), w, root(gen, 0, 0, 0)))
		wantCame(t, x, ended(max(int(w>>16&0xffff)-2, -1), 2))
		wantRoot(t, r, slot, word.Root{Gen: gen})
		wantHeld(t, m, words)
	})
}

// P11.4: each slot of several configurations: those beside it stay.
func TestEndOfEachSlot(t *testing.T) {
	for _, c := range configs[:5] {
		for slot := range c.Slots {
			m, r := filled(t, c)
			for other := range c.Slots {
				m.Lay(rootAt(c, other), root(5, 3, 1, 6))
			}
			words := held(m)
			words[rootAt(c, slot)] = root(5, 0, 0, 0)
			x := ending(t, m, r, slot, 5)
			wantSteps(t, m, x, true, load(rootAt(c, slot), root(5, 3, 1, 6)), turn(rootAt(c, slot), root(5, 3, 1, 6), root(5, 0, 0, 0)))
			wantCame(t, x, ended(1, 2))
			wantHeld(t, m, words)
		}
	}
}

// P11.4: each chunk that there can be.
func TestEndTellsTheChunk(t *testing.T) {
	c := slots(1)
	for mark := 1; mark <= api.MaxChunks+1; mark++ {
		m, r := laid(t, c, 0, root(1, mark, 0, 8))
		x := ending(t, m, r, 0, 1)
		through(t, m, x)
		wantCame(t, x, ended(mark-2, 2))
	}
}

// P11.4: an exchange that fails, more than once, goes on from the Load; the chunk is that of the last one, and so is the Point.
func TestEndGoesOnFromTheLoad(t *testing.T) {
	c := slots(2)
	at := rootAt(c, 1)
	l := []uint64{root(3, 1, 2, 0), root(3, 2, 2, 5), root(3, 2, 2, 6), root(3, 4, 2, 6), root(3, 4, 1, 6)}
	m, r := laid(t, c, 1, l[0])
	x := ending(t, m, r, 1, 3)
	for i := range len(l) - 1 {
		wantSteps(t, m, x, false, load(at, l[i]))
		m.Lay(at, l[i+1])
		wantSteps(t, m, x, false, missed(at, l[i+1]))
	}
	wantSteps(t, m, x, true, load(at, l[4]), turn(at, l[4], root(3, 0, 0, 0)))
	wantCame(t, x, ended(2, 10))
}

// P11.4: it had a chunk at the first look and none at the second, which no machine does: what the last Load told counts.
func TestEndOfOneThatLostItsChunk(t *testing.T) {
	c := slots(2)
	at := rootAt(c, 0)
	m, r := laid(t, c, 0, root(3, 4, 2, 6))
	x := ending(t, m, r, 0, 3)
	wantSteps(t, m, x, false, load(at, root(3, 4, 2, 6)))
	m.Lay(at, root(3, 1, 2, 0))
	wantSteps(t, m, x, true, missed(at, root(3, 1, 2, 0)), load(at, root(3, 1, 2, 0)), turn(at, root(3, 1, 2, 0), root(3, 0, 0, 0)))
	wantCame(t, x, ended(-1, 4))
}

// P11.4: the exchange fails since there is no such region any more: Stale, and the Load that told so is its Point.
func TestEndFindsItStaleAtTheSecondLook(t *testing.T) {
	c := slots(2)
	at := rootAt(c, 0)
	for _, gone := range []uint64{root(3, 0, 0, 0), root(4, 1, 0, 0), root(4, 4, 2, 6), root(2, 4, 2, 6), 0, root(3, 0, 2, 6)} {
		m, r := laid(t, c, 0, root(3, 4, 2, 6))
		x := ending(t, m, r, 0, 3)
		wantSteps(t, m, x, false, load(at, root(3, 4, 2, 6)))
		m.Lay(at, gone)
		wantSteps(t, m, x, true, missed(at, gone), load(at, gone))
		wantCame(t, x, stale(3))
		if m.Peek(at) != gone {
			t.Errorf("the root is %#x, want %#x", m.Peek(at), gone)
		}
	}
}

// P11.4: what came of an End stays, whatever comes behind.
func TestEndStays(t *testing.T) {
	c := slots(2)
	m, r := laid(t, c, 0, root(3, 4, 2, 6))
	x, y := ending(t, m, r, 0, 3), ending(t, m, r, 0, 3)
	through(t, m, x)
	through(t, m, y)
	m.Lay(rootAt(c, 0), root(3, 6, 0, 1))
	wantDone(t, m, x)
	wantDone(t, m, y)
	wantCame(t, x, ended(2, 2))
	wantCame(t, y, stale(1))
}

// P11.4: the accesses of a Push, upon each stack.
func TestBackAccesses(t *testing.T) {
	for _, c := range configs[:5] {
		for slot := range c.Slots {
			for _, top := range []int{-1, 0, c.Slots - 1} {
				if top == slot {
					continue
				}
				m, r := filled(t, c)
				was := m.Peek(linkAt(c, slot))
				m.Lay(spareHead, head(top, 6))
				words := held(m)
				words[spareHead], words[linkAt(c, slot)] = head(slot, 7), uint64(top+1)
				wantSteps(t, m, backing(t, m, r, slot), true,
					load(spareHead, head(top, 6)), store(linkAt(c, slot), was, uint64(top+1)), turn(spareHead, head(top, 6), head(slot, 7)))
				wantHeld(t, m, words)
				if got := r.Spare(); got[0] != slot {
					t.Errorf("Spare = %v, want %d on top", got, slot)
				}
			}
		}
	}
}

// P11.4: its exchange fails: again from the Load of the head.
func TestBackGoesOnFromTheHead(t *testing.T) {
	c := slots(3)
	m, r := filled(t, c)
	m.Lay(spareHead, head(1, 6))
	x := backing(t, m, r, 0)
	wantSteps(t, m, x, false, load(spareHead, head(1, 6)), store(linkAt(c, 0), 2, 2))
	m.Lay(spareHead, head(2, 7))
	wantSteps(t, m, x, true,
		missed(spareHead, head(2, 7)), load(spareHead, head(2, 7)), store(linkAt(c, 0), 2, 3), turn(spareHead, head(2, 7), head(0, 8)))
	wantSpare(t, r, 0, 2)
}

// P11.2, P11.4: a slot's regions one behind the other: each has its own generation, round behind MaxTag.
func TestGenerations(t *testing.T) {
	c := slots(1)
	for first, count := range map[int]int{0: 300, api.MaxTag - 5: 12, math.MaxInt32 - 2: 6} {
		m, r := laid(t, c, 0, root(first, 0, 0, 0))
		for i := range count {
			gen := (first + i + 1) % (api.MaxTag + 1)
			x := creating(t, m, r, i)
			through(t, m, x)
			wantCame(t, x, created(0, gen, 3))
			for _, other := range []int{gen - 1, gen + 1, gen + 1<<32} {
				e := ending(t, m, r, 0, other)
				through(t, m, e)
				wantCame(t, e, stale(1))
			}
			e := ending(t, m, r, 0, gen)
			through(t, m, e)
			wantCame(t, e, ended(-1, 2))
			l := looking(t, m, r, 0, gen)
			through(t, m, l)
			wantCame(t, l, stale(0))
			through(t, m, backing(t, m, r, 0))
			wantSpare(t, r, 0)
		}
	}
}
