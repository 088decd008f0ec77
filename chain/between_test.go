package chain_test

import (
	"slices"
	"testing"

	"rundale/api"
	"rundale/cells"
	"rundale/chain"
)

// P12.3: what counts is what each Load has told: neither what a link held ahead of it nor what it holds behind it.
func TestWalkGoesByWhatItLoaded(t *testing.T) {
	c := chunks(5)
	m, x := filled(t, c)
	w := walking(t, m, x, 0)
	m.Lay(linkAt(c, 0), link(3))
	wantSteps(t, m, w, false, load(linkAt(c, 0), link(3)))
	m.Lay(linkAt(c, 0), link(1))
	m.Lay(linkAt(c, 3), link(2))
	wantSteps(t, m, w, false, load(linkAt(c, 3), link(2)))
	m.Lay(linkAt(c, 3), 0)
	m.Lay(linkAt(c, 2), 0)
	wantSteps(t, m, w, true, load(linkAt(c, 2), 0))
	m.Lay(linkAt(c, 2), link(4))
	wantFound(t, w, 0, 3, 2)
	wantDone(t, m, w)
}

// P12.3: a chain that grows ahead of a Walk, so that it would never end: as many Loads as there are chunks.
func TestWalkThatIsLedOn(t *testing.T) {
	for _, c := range configs[:5] {
		m, x := filled(t, c)
		for i := range c.Chunks {
			m.Lay(linkAt(c, i), 0)
		}
		w := walking(t, m, x, 0)
		at := 0
		var want []int
		for n := 1; n <= c.Chunks; n++ {
			want = append(want, at)
			next := (at + 1) % c.Chunks
			m.Lay(linkAt(c, at), link(next))
			wantSteps(t, m, w, n == c.Chunks, load(linkAt(c, at), link(next)))
			m.Lay(linkAt(c, at), 0)
			at = next
		}
		wantFound(t, w, want...)
	}
}

// P12.3: a ring that is cut ahead of a Walk in its last Load, or ahead of that.
func TestWalkOfARingThatIsCut(t *testing.T) {
	c := chunks(4)
	for cut := range 4 {
		m, x := laid(t, link(1), link(0), 0, 0)
		w := walking(t, m, x, 0)
		for i := range cut {
			wantSteps(t, m, w, false, load(linkAt(c, i%2), link((i+1)%2)))
		}
		m.Lay(linkAt(c, cut%2), 0)
		wantSteps(t, m, w, true, load(linkAt(c, cut%2), 0))
		wantFound(t, w, []int{0, 1, 0, 1}[:cut+1]...)
	}
}

// P12.2, P12.3: a newer chunk is set ahead of those that a Walk goes along: it doesn't meet it.
func TestSetAheadOfAWalk(t *testing.T) {
	c := chunks(4)
	for early := range 3 {
		m, x := laid(t, 0, link(0), 0, 0)
		w, s := walking(t, m, x, 1), setting(t, m, x, 3, 1)
		for i := range 2 {
			if i == early {
				wantSteps(t, m, s, true, store(linkAt(c, 3), 0, link(1)))
			}
			wantSteps(t, m, w, i == 1, load(linkAt(c, 1-i), link(-i)))
		}
		wantFound(t, w, 1, 0)
		through(t, m, s)
		wantList(t, m, x, 3, 3, 1, 0)
	}
}

// track is a Walk, and what it is to do by what stands in the links at its steps.
type track struct {
	w    *chain.Walk
	l    []int
	done bool
}

// draw is a number below n, by a fixed rule.
type draw uint64

func (d *draw) below(n int) int {
	*d = *d*6364136223846793005 + 1442695040888963407
	return int(*d>>33) % n
}

// table is some walkers over links that everything is done to.
type table struct {
	t      *testing.T
	m      *cells.Cells
	c      api.Config
	x      *chain.Chains
	tracks []*track
	sets   []*chain.Set
	stores []cells.Access // of each of sets, but for Old
	d      draw
}

// walk has track k do one access, and holds it and what came of it against the links.
func (b *table) walk(k int) {
	r := b.tracks[k]
	if r.done {
		b.wantAtEnd(r)
		b.begin(k)
		return
	}
	at := linkAt(b.c, r.l[len(r.l)-1])
	word := b.m.Peek(at)
	switch {
	case word == 0 || word > uint64(b.c.Chunks) || len(r.l) == b.c.Chunks:
		r.done = true
	default:
		r.l = append(r.l, int(word-1))
	}
	b.step(r.w, load(at, word))
	if r.done {
		b.wantAtEnd(r)
	} else if r.w.Done() || len(r.w.List()) > 0 {
		b.t.Fatalf("ahead of its end a Walk from %d tells %v, Done %t", r.l[0], r.w.List(), r.w.Done())
	}
}

// wantAtEnd: a Walk has found what it was told, and goes on no more.
func (b *table) wantAtEnd(r *track) {
	count := b.m.Count()
	if r.w.Step() || !r.w.Done() || b.m.Count() != count {
		b.t.Fatal("a Walk goes on behind its end")
	}
	if !slices.Equal(r.w.List(), r.l) {
		b.t.Fatalf("a Walk has found %v, want %v", r.w.List(), r.l)
	}
}

// step has a machine do the access a.
func (b *table) step(x machine, a cells.Access) {
	count := b.m.Count()
	if !x.Step() || b.m.Count() != count+1 || b.m.Last() != a {
		b.t.Fatalf("%d accesses, the last %+v, want %+v", b.m.Count()-count, b.m.Last(), a)
	}
}

// begin has track k be a new Walk.
func (b *table) begin(k int) {
	first := b.d.below(b.c.Chunks)
	w, code := b.x.Walk(first)
	if code != api.Fine {
		b.t.Fatalf("Walk(%d): %d", first, code)
	}
	b.tracks[k] = &track{w: w, l: []int{first}}
}

// set makes a Set, or has an elder one do its access.
func (b *table) set() {
	if len(b.sets) < 4 {
		chunk, to := b.d.below(b.c.Chunks), b.d.below(b.c.Chunks+1)-1
		s, code := b.x.Set(chunk, to)
		if code != api.Fine {
			b.t.Fatalf("Set(%d, %d): %d", chunk, to, code)
		}
		b.sets, b.stores = append(b.sets, s), append(b.stores, store(linkAt(b.c, chunk), 0, link(to)))
		return
	}
	i := b.d.below(len(b.sets))
	s, a := b.sets[i], b.stores[i]
	a.Old = b.m.Peek(a.At)
	b.step(s, a)
	if !s.Done() || s.Step() {
		b.t.Fatal("a Set is not done behind its access")
	}
	b.sets, b.stores = slices.Delete(b.sets, i, i+1), slices.Delete(b.stores, i, i+1)
}

// other is what those do who are no machine of a chain.
func (b *table) other() {
	chunk := b.d.below(b.c.Chunks)
	switch b.d.below(6) {
	case 0:
		words := append(beyond(b.c.Chunks), 0)
		b.m.Lay(linkAt(b.c, chunk), words[b.d.below(len(words))])
	case 1:
		b.m.Store(linkAt(b.c, chunk), link(b.d.below(b.c.Chunks)))
	case 2:
		b.m.Add(linkAt(b.c, chunk), 1)
	case 3:
		for p := b.x.Pool().Pop(1 + b.d.below(4)); p.Step(); {
		}
	case 4:
		p, _ := b.x.Pool().Push(chunk)
		for p.Step() {
		}
	case 5:
		if b.d.below(10) == 0 {
			b.x.Fill()
		}
	}
}

// P12.2, P12.3: many Walks and Sets at once, in orders drawn by a fixed rule, with others that write into the links whatever they like.
func TestWalksAmongOthers(t *testing.T) {
	for seed := range 120 {
		b := &table{t: t, c: chunks([]int{1, 2, 3, 5, 8, 20}[seed%6]), d: draw(seed + 1)}
		b.m, b.x = filled(t, b.c)
		b.tracks = make([]*track, 1+seed%4)
		for k := range b.tracks {
			b.begin(k)
		}
		for range 600 {
			switch quiet := 3 + seed%5; b.d.below(quiet) {
			case 0:
				b.set()
			case 1:
				b.other()
			default:
				b.walk(b.d.below(len(b.tracks)))
			}
		}
	}
}

// P12.1 to P12.3: regions' chains that grow and end, as they do above: chunks are taken from the pool, set ahead of the newest one, found by a Walk, and pushed back; behind each step each chunk is in the pool, in one chain or in one's hands, once.
func TestChainsOutOfThePool(t *testing.T) {
	for seed := range 40 {
		c := chunks([]int{1, 3, 9, 30}[seed%4])
		m, x := filled(t, c)
		d := draw(seed + 1)
		newest := []int{-1, -1, -1}
		for range 100 {
			k := d.below(len(newest))
			if d.below(4) > 0 {
				pop := x.Pool().Pop(1)
				through(t, m, pop)
				for _, chunk := range pop.Got() {
					through(t, m, setting(t, m, x, chunk, newest[k]))
					newest[k] = chunk
				}
			} else if newest[k] != -1 {
				w := walking(t, m, x, newest[k])
				through(t, m, w)
				push, code := x.Pool().Push(w.List()...)
				if code != api.Fine {
					t.Fatalf("Push(%v): %d", w.List(), code)
				}
				through(t, m, push)
				newest[k] = -1
			}
			all := x.Pool().List()
			for _, first := range newest {
				all = append(all, x.List(first)...)
			}
			slices.Sort(all)
			if !slices.Equal(all, upTo(c.Chunks)) {
				t.Fatalf("the chunks are %v", all)
			}
		}
	}
}
