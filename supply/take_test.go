package supply_test

import (
	"math"
	"testing"

	"rundale/api"
	"rundale/cells"
	"rundale/supply"
)

// P13.2: of what is kept: done as it is made, the last one, which is no more there; whatever the limbo and the pool have stays.
func TestTakeOfWhatIsKept(t *testing.T) {
	for _, c := range configs[1:3] {
		m, s := pooled(t, c, 0)
		m.Lay(epochAt, 1000)
		retired(t, s, 1, 1)
		s.Put(2, 3)
		words := held(m)
		for i, want := range []int{3, 2} {
			k := taking(t, m, s)
			wantStash(t, s, []int{2}[i:]...)
			wantChunk(t, k, want)
			wantDone(t, m, k)
			wantSeen(t, k, -1)
		}
		wantLimbo(t, s, bucket{1, []int{1}})
		wantPool(t, m, c, 0)
		wantUntouched(t, m, 0, words)
	}
}

// P13.2: the chunk 0, which looks like none.
func TestTakeOfTheFirstChunk(t *testing.T) {
	c := sized(2, 1, 2)
	m, s := pooled(t, c, 0)
	s.Put(0)
	wantChunk(t, taking(t, m, s), 0)
	k := taking(t, m, s)
	through(t, m, k)
	wantChunk(t, k, 0)
	retired(t, s, 0, 0)
	m.Lay(epochAt, 2)
	k = taking(t, m, s)
	through(t, m, k)
	wantChunk(t, k, 0)
	k = taking(t, m, s)
	through(t, m, k)
	wantNone(t, k)
}

// P13.2: nothing is kept, and what waits may go: one Load; the last one of it is the chunk, the others are kept. The pool is not asked.
func TestTakeOfWhatIsReady(t *testing.T) {
	for now := 5; now < 9; now++ {
		c := sized(9, 1, 8)
		m, s := pooled(t, c, 7, 8)
		m.Lay(epochAt, uint64(now))
		retired(t, s, 3, 1, 5)
		words := held(m)
		k := taking(t, m, s)
		wantGoingOn(t, k)
		wantStash(t, s)
		wantLimbo(t, s, bucket{3, []int{1, 5}})
		wantSteps(t, m, k, true, load(epochAt, uint64(now)))
		wantChunk(t, k, 5)
		wantSeen(t, k, now)
		wantStash(t, s, 1)
		wantLimbo(t, s)
		wantUntouched(t, m, 1, words)
	}
}

// P13.2: just one that waits may go: nothing is kept then.
func TestTakeOfTheOneThatIsReady(t *testing.T) {
	m, s := pooled(t, sized(9, 1, 8), 7, 8)
	m.Lay(epochAt, 5)
	retired(t, s, 3, 6)
	retired(t, s, 4, 2)
	k := taking(t, m, s)
	wantSteps(t, m, k, true, load(epochAt, 5))
	wantChunk(t, k, 6)
	wantStash(t, s)
	wantLimbo(t, s, bucket{4, []int{2}})
}

// P13.2: of several buckets the least tag's is the first, so the chunk is the last one of the greatest; what may not go stays.
func TestTakeOfSeveralBuckets(t *testing.T) {
	begin := func(now uint64) (*cells.Cells, *supply.Supply, *supply.Take) {
		m, s := pooled(t, sized(9, 1, 8), 7, 8)
		m.Lay(epochAt, now)
		retired(t, s, 5, 3, 0)
		retired(t, s, 6, 2)
		retired(t, s, 7, 4, 6, 1)
		return m, s, taking(t, m, s)
	}
	m, s, k := begin(7)
	wantSteps(t, m, k, true, load(epochAt, 7))
	wantChunk(t, k, 0)
	wantStash(t, s, 3)
	wantLimbo(t, s, bucket{6, []int{2}}, bucket{7, []int{4, 6, 1}})
	m, s, k = begin(8)
	wantSteps(t, m, k, true, load(epochAt, 8))
	wantChunk(t, k, 2)
	wantStash(t, s, 3, 0)
	wantLimbo(t, s, bucket{7, []int{4, 6, 1}})
	m, s, k = begin(9)
	wantSteps(t, m, k, true, load(epochAt, 9))
	wantChunk(t, k, 1)
	wantStash(t, s, 3, 0, 2, 4, 6)
	wantLimbo(t, s)
}

// P13.2: nothing that waits may go: it stays; behind the Load come the accesses of the Pop. Seen is told ahead of the end.
func TestTakeWhileNothingIsReady(t *testing.T) {
	for now := range 5 {
		c := sized(9, 1, 2)
		m, s := pooled(t, c, 6, 0, 8, 4)
		m.Lay(epochAt, uint64(now))
		retired(t, s, 3, 1, 5)
		k := taking(t, m, s)
		wantSteps(t, m, k, false, load(epochAt, uint64(now)))
		wantSeen(t, k, now)
		for _, a := range pops(c, 2, 0, 6, 0, 8, 4) {
			wantStash(t, s)
			wantSteps(t, m, k, a.Kind == cells.Cas, a)
			wantSeen(t, k, now)
			wantLimbo(t, s, bucket{3, []int{1, 5}})
		}
		wantChunk(t, k, 6)
		wantStash(t, s, 0)
		wantPool(t, m, c, 8, 4)
	}
}

// P13.2: the epoch's word, whatever it is; above MaxEpoch it is MaxEpoch, by which a tag next to that is not gone.
func TestTakeSeesTheEpoch(t *testing.T) {
	for _, e := range []struct {
		word uint64
		seen int
	}{
		{0, 0}, {1, 1}, {2, 2}, {1 << 31, 1 << 31}, {1 << 32, 1 << 32}, {1<<32 + 5, 1<<32 + 5}, {1 << 61, 1 << 61},
		{api.MaxEpoch - 1, api.MaxEpoch - 1}, {api.MaxEpoch, api.MaxEpoch}, {api.MaxEpoch + 1, api.MaxEpoch}, {api.MaxEpoch + 2, api.MaxEpoch},
		{math.MaxInt, api.MaxEpoch}, {1 << 63, api.MaxEpoch}, {1<<63 + 1, api.MaxEpoch}, {math.MaxUint64 - 1, api.MaxEpoch}, {math.MaxUint64, api.MaxEpoch},
	} {
		for _, tag := range []int{e.seen - 3, e.seen - 2, e.seen - 1, e.seen} {
			if tag < 0 {
				continue
			}
			c := sized(3, 1, 2)
			m, s := pooled(t, c, 2)
			m.Lay(epochAt, e.word)
			retired(t, s, tag, 1)
			k := taking(t, m, s)
			ready := tag+2 <= e.seen
			wantSteps(t, m, k, ready, load(epochAt, e.word))
			wantSeen(t, k, e.seen)
			if ready {
				wantChunk(t, k, 1)
				wantLimbo(t, s)
				continue
			}
			wantSteps(t, m, k, true, pops(c, 2, 0, 2)...)
			wantChunk(t, k, 2)
			wantSeen(t, k, e.seen)
			wantLimbo(t, s, bucket{tag, []int{1}})
		}
	}
}

// P13.2: neither anything kept nor anything that waits: no Load of the epoch; the accesses of a Pop of Batch, from pools of each size. The first item is the chunk, the others are kept in their order.
func TestTakeOfThePool(t *testing.T) {
	order := []int{4, 9, 0, 7, 2, 10, 5, 1, 8, 6, 3}
	for batch := 1; batch <= api.MaxBatch; batch++ {
		for n := 1; n <= len(order); n++ {
			for _, cache := range []int{0, 3, api.MaxCache} {
				c := sized(len(order), cache, batch)
				m, s := pooled(t, c, order[:n]...)
				m.Lay(epochAt, 1000)
				words := held(m)
				k := taking(t, m, s)
				all := pops(c, batch, 0, order[:n]...)
				for i, a := range all {
					wantStash(t, s)
					wantSteps(t, m, k, i == len(all)-1, a)
				}
				got := min(n, batch)
				wantChunk(t, k, order[0])
				wantSeen(t, k, -1)
				wantStash(t, s, order[1:got]...)
				wantPool(t, m, c, order[got:n]...)
				words[poolHead] = all[len(all)-1].New
				wantUntouched(t, m, len(all), words)
			}
		}
	}
}

// P13.2: an empty pool: done behind the Load of its head, without a chunk; is there anything that waits, behind the epoch's too.
func TestTakeOfAnEmptyPool(t *testing.T) {
	for _, c := range configs {
		m, s := pooled(t, c)
		m.Lay(epochAt, 4)
		words := held(m)
		k := taking(t, m, s)
		wantSteps(t, m, k, true, load(poolHead, 0))
		wantNone(t, k)
		wantSeen(t, k, -1)
		retired(t, s, 3, 0)
		k = taking(t, m, s)
		wantSteps(t, m, k, true, load(epochAt, 4), load(poolHead, 0))
		wantNone(t, k)
		wantSeen(t, k, 4)
		wantStash(t, s)
		wantLimbo(t, s, bucket{3, []int{0}})
		wantUntouched(t, m, 3, words)
	}
}

// P13.2: Takes one behind the other, until nothing is left: what the pool gave beyond the first is taken without an access, its last one first.
func TestTakeUntilNothingIsLeft(t *testing.T) {
	c := sized(7, 0, 3)
	m, s := pooled(t, c, span(0, 7)...)
	for i, want := range []int{0, 2, 1, 3, 5, 4, 6} {
		k := taking(t, m, s)
		n := through(t, m, k)
		wantChunk(t, k, want)
		if at := []int{5, 0, 0, 5, 0, 0, 3}[i]; n != at {
			t.Errorf("the Take %d: %d accesses, want %d", i, n, at)
		}
	}
	k := taking(t, m, s)
	through(t, m, k)
	wantNone(t, k)
}

// P13.2: a retired chunk comes back when the epoch has gone on by two, not ahead of that.
func TestTakeOfARetiredChunk(t *testing.T) {
	c := sized(1, 1, 1)
	m, s := pooled(t, c)
	m.Lay(epochAt, 9)
	retired(t, s, 9, 0)
	for now := 9; now < 11; now++ {
		m.Lay(epochAt, uint64(now))
		k := taking(t, m, s)
		wantSteps(t, m, k, true, load(epochAt, uint64(now)), load(poolHead, 0))
		wantNone(t, k)
	}
	m.Lay(epochAt, 11)
	k := taking(t, m, s)
	wantSteps(t, m, k, true, load(epochAt, 11))
	wantChunk(t, k, 0)
}

// P13.2, P0.5: what came of a Take stays, whatever is done behind it.
func TestChunkStays(t *testing.T) {
	c := sized(6, 1, 2)
	m, s := pooled(t, c, 1, 2, 3)
	retired(t, s, 0, 5)
	a := taking(t, m, s)
	through(t, m, a)
	b := taking(t, m, s)
	m.Lay(epochAt, 7)
	d := taking(t, m, s)
	through(t, m, d)
	s.Put(1, 2)
	retired(t, s, 8, 5)
	through(t, m, giving(t, m, s.All))
	e := taking(t, m, s)
	m.Lay(epochAt, 8)
	through(t, m, e)
	m.Lay(epochAt, 100)
	for _, k := range []*supply.Take{a, b, d, e} {
		wantDone(t, m, k)
	}
	wantChunk(t, a, 1)
	wantSeen(t, a, 0)
	wantChunk(t, b, 2)
	wantSeen(t, b, -1)
	wantChunk(t, d, 5)
	wantSeen(t, d, 7)
	wantChunk(t, e, 1)
	wantSeen(t, e, 8)
}
