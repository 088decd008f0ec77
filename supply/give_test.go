package supply_test

import (
	"slices"
	"testing"

	"rundale/api"
	"rundale/supply"
)

// pushed does all of a Give's accesses, which are those of a Push of want: it has them in hand till the end.
func pushed(t *testing.T, c api.Config, pool []int, give func(*supply.Supply) *supply.Give, put, want, left []int) {
	t.Helper()
	m, s := pooled(t, c, pool...)
	s.Put(put...)
	words := held(m)
	g := giving(t, m, func() *supply.Give { return give(s) })
	wantStash(t, s, left...)
	wantHand(t, g, want...)
	top := -1
	if len(pool) > 0 {
		top = pool[0]
	}
	all := pushes(m, c, top, 0, want...)
	for i, a := range all {
		wantHand(t, g, want...)
		wantPool(t, m, c, pool...)
		wantSteps(t, m, g, i == len(all)-1, a)
		words[a.At] = a.New
	}
	wantDone(t, m, g)
	wantHand(t, g)
	wantStash(t, s, left...)
	wantPool(t, m, c, append(slices.Clone(want), pool...)...)
	wantUntouched(t, m, len(all), words)
}

// ways are the calls that make a Give.
var ways = map[string]func(*supply.Supply) *supply.Give{"Spill": (*supply.Supply).Spill, "All": (*supply.Supply).All}

// P13.3: those at the stash's beginning that are too many, be the cache small or great; the pool empty or not.
func TestSpill(t *testing.T) {
	for cache := range 5 {
		for n := range 8 {
			for _, pool := range [][]int{nil, {9}, {8, 9, 1}} {
				put := []int{3, 0, 5, 2, 7, 4, 6}[:n]
				many := max(n-cache, 0)
				pushed(t, sized(10, cache, 2), pool, ways["Spill"], put, put[:many], put[many:])
			}
		}
	}
}

// P13.3: just as many as are kept: nothing to be done; one more: that one goes.
func TestSpillOfTheGreatest(t *testing.T) {
	c := configs[5]
	pushed(t, c, []int{4000}, ways["Spill"], span(100, 164), nil, span(100, 164))
	pushed(t, c, []int{4000}, ways["Spill"], span(100, 165), []int{100}, span(101, 165))
	pushed(t, c, []int{4000}, ways["Spill"], span(100, 400), span(100, 336), span(336, 400))
}

// P13.3: all, however many are kept.
func TestAll(t *testing.T) {
	for _, cache := range []int{0, 1, 3, api.MaxCache} {
		for n := range 8 {
			for _, pool := range [][]int{nil, {9}, {8, 9, 1}} {
				put := []int{3, 0, 5, 2, 7, 4, 6}[:n]
				pushed(t, sized(10, cache, 2), pool, ways["All"], put, put, nil)
			}
		}
	}
	pushed(t, configs[0], nil, ways["All"], []int{0}, []int{0}, nil)
	pushed(t, configs[5], nil, ways["All"], span(0, api.MaxChunks), span(0, api.MaxChunks), nil)
}

// P13.3: what waits is not pushed, though it may go.
func TestGiveLeavesTheLimbo(t *testing.T) {
	for name, give := range ways {
		c := sized(6, 0, 2)
		m, s := pooled(t, c)
		m.Lay(epochAt, 1000)
		retired(t, s, 1, 3)
		retired(t, s, 2, 4)
		g := giving(t, m, func() *supply.Give { return give(s) })
		wantDone(t, m, g)
		s.Put(2)
		g = give(s)
		wantSteps(t, m, g, true, pushes(m, c, -1, 0, 2)...)
		wantLimbo(t, s, bucket{1, []int{3}}, bucket{2, []int{4}})
		if t.Failed() {
			t.Fatal(name)
		}
	}
}

// P13.3: it takes out what is kept as it is made: what is kept later is not pushed by it.
func TestGiveOfWhatWasKept(t *testing.T) {
	for name, give := range ways {
		c := sized(6, 0, 2)
		m, s := pooled(t, c)
		s.Put(2, 3)
		g := giving(t, m, func() *supply.Give { return give(s) })
		s.Put(5)
		k := taking(t, m, s)
		wantChunk(t, k, 5)
		s.Put(4)
		next := give(s)
		wantHand(t, next, 4)
		wantHand(t, g, 2, 3)
		wantStash(t, s)
		wantSteps(t, m, g, true, pushes(m, c, -1, 0, 2, 3)...)
		wantHand(t, next, 4)
		wantPool(t, m, c, 2, 3)
		wantSteps(t, m, next, true, pushes(m, c, 2, 1, 4)...)
		wantPool(t, m, c, 4, 2, 3)
		if t.Failed() {
			t.Fatal(name)
		}
	}
}

// P13.3, P0.1: a stash can be handed what the pool can't: no call panics, and each machine ends.
func TestGiveOfNoChunks(t *testing.T) {
	for _, bad := range append([]int{-1, -2, 4, 5, 2}, extremes...) {
		for _, give := range ways {
			c := sized(4, 0, 2)
			m, s := pooled(t, c, 1)
			s.Put(0, bad, 2)
			through(t, m, give(s))
			through(t, m, give(s))
			s.Put(3)
			through(t, m, give(s))
			wantPool(t, m, c, 3, 1)
			retired(t, s, 0, bad, bad)
			m.Lay(epochAt, 2)
			k := taking(t, m, s)
			through(t, m, k)
			wantChunk(t, k, bad)
			through(t, m, give(s))
		}
	}
}
