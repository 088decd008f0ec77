package chain_test

import (
	"math"
	"slices"
	"testing"

	"rundale/api"
	"rundale/cells"
	"rundale/chain"
)

// P12.2: one access, of each chunk to each one, to itself and to none; the cells beside the link stay.
func TestSetAccess(t *testing.T) {
	for _, c := range configs[:4] {
		for chunk := range c.Chunks {
			for to := -1; to < c.Chunks; to++ {
				for _, was := range []uint64{0, link(to), link(c.Chunks - 1), uint64(c.Chunks + 1), math.MaxUint64} {
					m, x := filled(t, c)
					m.Lay(linkAt(c, chunk), was)
					words := held(m)
					s := setting(t, m, x, chunk, to)
					wantSteps(t, m, s, true, store(linkAt(c, chunk), was, link(to)))
					words[linkAt(c, chunk)] = link(to)
					wantHeld(t, m, words)
				}
			}
		}
	}
}

// P12.2: the edges of the greatest configuration.
func TestSetOfTheGreatest(t *testing.T) {
	c := configs[5]
	m, x := filled(t, c)
	for _, chunk := range []int{0, 1, c.Chunks - 2, c.Chunks - 1} {
		for _, to := range []int{-1, 0, 1, c.Chunks - 2, c.Chunks - 1} {
			s := setting(t, m, x, chunk, to)
			wantSteps(t, m, s, true, store(linkAt(c, chunk), m.Peek(linkAt(c, chunk)), link(to)))
		}
	}
}

// P12.2: what stands behind the chunk then is what List tells.
func TestSetThenList(t *testing.T) {
	m, x := filled(t, chunks(4))
	for _, l := range []struct {
		chunk, to int
		want      []int
	}{
		{0, -1, []int{0}}, {2, 0, []int{2, 0}}, {3, 2, []int{3, 2, 0}}, {1, 3, []int{1, 3, 2, 0}},
		{2, -1, []int{2}}, {3, 0, []int{3, 0}}, {0, 0, []int{0, 0, 0, 0}}, {3, 0, []int{3, 0, 0, 0}},
		{0, 3, []int{0, 3, 0, 3}}, {0, -1, []int{0}}, {3, 3, []int{3, 3, 3, 3}},
	} {
		through(t, m, setting(t, m, x, l.chunk, l.to))
		wantList(t, m, x, l.chunk, l.want...)
	}
}

// P12.2, P0.3: nothing is made, and nothing is turned or counted.
func TestSetOfWhatIsNoChunk(t *testing.T) {
	for _, c := range configs {
		m, x := filled(t, c)
		words := held(m)
		wrong := func(chunk, to int) {
			t.Helper()
			if s, code := x.Set(chunk, to); s != nil || code != api.ErrArg {
				t.Errorf("Set(%d, %d) of %d chunks = %v, %d, want nil, ErrArg", chunk, to, c.Chunks, s, code)
			}
		}
		for _, i := range notChunks(c.Chunks) {
			for _, to := range []int{-1, 0, c.Chunks - 1, i} {
				wrong(i, to)
			}
			if i != -1 {
				wrong(0, i)
				wrong(c.Chunks-1, i)
			}
		}
		wantUntouched(t, m, 0, words)
	}
}

// P12.2: the Store is done at its step, over whatever stands there by then; behind it the link is anybody's.
func TestSetWaitsForItsStep(t *testing.T) {
	c := chunks(3)
	m, x := filled(t, c)
	a, b := setting(t, m, x, 1, 0), setting(t, m, x, 1, -1)
	m.Lay(linkAt(c, 1), 77)
	wantSteps(t, m, b, true, store(linkAt(c, 1), 77, 0))
	wantSteps(t, m, a, true, store(linkAt(c, 1), 0, link(0)))
	m.Lay(linkAt(c, 1), 78)
	wantDone(t, m, a)
	wantDone(t, m, b)
}

// chained is filled chains of c whose chunks stand one behind another as l tells.
func chained(t *testing.T, c api.Config, l ...int) (*cells.Cells, *chain.Chains) {
	t.Helper()
	m, x := filled(t, c)
	for i, chunk := range l {
		to := -1
		if i+1 < len(l) {
			to = l[i+1]
		}
		m.Lay(linkAt(c, chunk), link(to))
	}
	return m, x
}

// loads is a Walk's accesses, by what the links hold: one of each of l.
func loads(m *cells.Cells, c api.Config, l ...int) []cells.Access {
	var all []cells.Access
	for _, chunk := range l {
		all = append(all, load(linkAt(c, chunk), m.Peek(linkAt(c, chunk))))
	}
	return all
}

// P12.3: the accesses in their order, of a chain of each length: the last one tells none behind; no cell is turned.
func TestWalkAccesses(t *testing.T) {
	for _, c := range configs[:5] {
		var l []int
		for i := range c.Chunks {
			l = append(l, (5+i*7)%c.Chunks) // each chunk once: no configuration here has a multiple of 7
		}
		for n := 1; n <= c.Chunks; n++ {
			m, x := chained(t, c, l[:n]...)
			words := held(m)
			w := walking(t, m, x, l[0])
			wantSteps(t, m, w, true, loads(m, c, l[:n]...)...)
			wantFound(t, w, l[:n]...)
			wantList(t, m, x, l[0], l[:n]...)
			wantUntouched(t, m, n, words)
		}
	}
}

// P12.3: from each place of a chain on.
func TestWalkFromEachPlace(t *testing.T) {
	c := chunks(6)
	l := []int{4, 1, 5, 0, 3, 2}
	m, x := chained(t, c, l...)
	for i, first := range l {
		w := walking(t, m, x, first)
		wantSteps(t, m, w, true, loads(m, c, l[i:]...)...)
		wantFound(t, w, l[i:]...)
	}
}

// P12.3: a link that is more than Chunks tells none behind.
func TestWalkOverALinkThatTellsNone(t *testing.T) {
	c := chunks(3)
	for _, word := range append(beyond(3), 0) {
		m, x := laid(t, link(1), word, link(0))
		w := walking(t, m, x, 0)
		wantSteps(t, m, w, true, load(linkAt(c, 0), link(1)), load(linkAt(c, 1), word))
		wantFound(t, w, 0, 1)
		w = walking(t, m, x, 1)
		wantSteps(t, m, w, true, load(linkAt(c, 1), word))
		wantFound(t, w, 1)
	}
	for _, word := range append(beyond(1), 0) {
		m, x := laid(t, word)
		w := walking(t, m, x, 0)
		wantSteps(t, m, w, true, load(linkAt(chunks(1), 0), word))
		wantFound(t, w, 0)
	}
}

// P12.3: links that go round: as many Loads as there are chunks, and as many chunks, though the last Load tells one more.
func TestWalkOfARing(t *testing.T) {
	m, x := laid(t, link(1), link(0), link(0), link(3))
	for first, l := range [][]int{{0, 1, 0, 1}, {1, 0, 1, 0}, {2, 0, 1, 0}, {3, 3, 3, 3}} {
		w := walking(t, m, x, first)
		wantSteps(t, m, w, true, loads(m, chunks(4), l...)...)
		wantFound(t, w, l...)
	}
	m, x = laid(t, link(0))
	w := walking(t, m, x, 0)
	wantSteps(t, m, w, true, load(linkAt(chunks(1), 0), link(0)))
	wantFound(t, w, 0)
}

// P12.3: a chain of all chunks is done by the Load that tells none behind, which is the last one there may be; so is one of all but one, ahead of that.
func TestWalkOfAllChunks(t *testing.T) {
	for _, c := range configs {
		n := c.Chunks
		m, x := filled(t, c)
		w := walking(t, m, x, 0)
		if steps := through(t, m, w); steps != n {
			t.Errorf("%d accesses, want %d", steps, n)
		}
		wantFound(t, w, upTo(n)...)
		m.Lay(linkAt(c, n-1), link(0))
		w = walking(t, m, x, 0)
		if steps := through(t, m, w); steps != n {
			t.Errorf("%d accesses of a ring, want %d", steps, n)
		}
		wantFound(t, w, upTo(n)...)
		if n > 1 {
			m.Lay(linkAt(c, n-2), 0)
			w = walking(t, m, x, 0)
			if steps := through(t, m, w); steps != n-1 {
				t.Errorf("%d accesses, want %d", steps, n-1)
			}
			wantFound(t, w, upTo(n-1)...)
		}
	}
}

// P12.3, P0.3: nothing is made, and nothing is counted.
func TestWalkOfNoChunk(t *testing.T) {
	for _, c := range configs {
		m, x := filled(t, c)
		words := held(m)
		for _, i := range notChunks(c.Chunks) {
			if w, code := x.Walk(i); w != nil || code != api.ErrArg {
				t.Errorf("Walk(%d) of %d chunks = %v, %d, want nil, ErrArg", i, c.Chunks, w, code)
			}
		}
		wantUntouched(t, m, 0, words)
	}
}

// P12.3, P0.4: each list is new memory, and what a caller writes into it the Walk doesn't show.
func TestFoundIsNewMemory(t *testing.T) {
	m, x := filled(t, chunks(5))
	w := walking(t, m, x, 0)
	through(t, m, w)
	a, b := w.List(), w.List()
	for i := range a {
		a[i] = 9
	}
	_ = append(a, 7)
	_ = append(b, 6)
	if !slices.Equal(b, upTo(5)) {
		t.Errorf("another List turned to %v", b)
	}
	wantFound(t, w, upTo(5)...)
}

// P12.3, P0.5: what a Walk found stays, whatever is done to the links behind it.
func TestFoundStays(t *testing.T) {
	m, x := filled(t, chunks(4))
	w := walking(t, m, x, 1)
	through(t, m, w)
	through(t, m, setting(t, m, x, 1, 0))
	through(t, m, setting(t, m, x, 3, 2))
	through(t, m, x.Pool().Pop(4))
	wantFound(t, w, 1, 2, 3)
	x.Fill()
	wantDone(t, m, w)
	wantFound(t, w, 1, 2, 3)
}
