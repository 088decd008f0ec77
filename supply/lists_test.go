package supply_test

import (
	"slices"
	"testing"
)

// spoil writes into all of a list's memory, the room behind its length too.
func spoil(l []int) {
	l = l[:cap(l)]
	for i := range l {
		l[i] = -77
	}
}

// wantSpoiled: nothing has written into a list since it was spoiled.
func wantSpoiled(t *testing.T, l []int) {
	t.Helper()
	for i, v := range l[:cap(l)] {
		if v != -77 {
			t.Errorf("at %d of a list that is the caller's was written %d", i, v)
		}
	}
}

// P13.1, P0.4: what Put is handed is neither changed nor kept, and what lies behind it is not touched.
func TestListThatIsPut(t *testing.T) {
	for given := 1; given < 6; given++ {
		m, s := pooled(t, sized(20, 0, 2))
		room := []int{4, 1, 3, 6, 2, 5}
		s.Put(room[:given]...)
		s.Put(7, 8)
		s.Put(room[given:]...)
		if !slices.Equal(room, []int{4, 1, 3, 6, 2, 5}) {
			t.Errorf("the list that was handed in is %v", room)
		}
		want := slices.Concat(room[:given], []int{7, 8}, room[given:])
		spoil(room)
		wantStash(t, s, want...)
		wantChunk(t, taking(t, m, s), want[7])
		s.Put(9)
		g := giving(t, m, s.All)
		spoil(room)
		wantHand(t, g, append(want[:7], 9)...)
		through(t, m, g)
		wantSpoiled(t, room)
	}
}

// P13.1, P0.4: likewise what Retire is handed, be it the first of its bucket or not.
func TestListThatIsRetired(t *testing.T) {
	for given := 1; given < 6; given++ {
		_, s := pooled(t, sized(20, 0, 2))
		room := []int{4, 1, 3, 6, 2, 5}
		retired(t, s, 3, room[:given]...)
		retired(t, s, 3, 7, 8)
		retired(t, s, 3, room[given:]...)
		if !slices.Equal(room, []int{4, 1, 3, 6, 2, 5}) {
			t.Errorf("the list that was handed in is %v", room)
		}
		want := slices.Concat(room[:given], []int{7, 8}, room[given:])
		spoil(room)
		wantLimbo(t, s, bucket{3, want})
		wantReady(t, s, 5, 8)
		s.Put(9)
		wantStash(t, s, append(want, 9)...)
		wantSpoiled(t, room)
	}
}

// P13.1, P0.4: what Retire pushes out into a stash that was empty is no list of the caller's either.
func TestListThatIsPushedOut(t *testing.T) {
	_, s := pooled(t, sized(20, 0, 2))
	in, behind := []int{4, 1, 3, 6}, []int{8, 7, 9, 2}
	retired(t, s, 3, in[:2]...)
	s.Retire(6, behind[:2]...)
	s.Put(5)
	if !slices.Equal(in, []int{4, 1, 3, 6}) || !slices.Equal(behind, []int{8, 7, 9, 2}) {
		t.Errorf("the lists that were handed in are %v, %v", in, behind)
	}
	spoil(in)
	spoil(behind)
	wantStash(t, s, 4, 1, 5)
	wantLimbo(t, s, bucket{6, []int{8, 7}})
}

// P13.1, P0.4: whatever is written into a Stash or a Bucket, no other list and no supply shows it.
func TestListsShown(t *testing.T) {
	// Of many lengths, grown one by one: so that there may be spare room behind them.
	for n := range 20 {
		_, s := pooled(t, sized(100, 0, 2))
		for i := range n {
			s.Put(i)
			retired(t, s, 4, 40+i)
		}
		a, b := s.Stash(), s.Stash()
		_, d := s.Bucket(1)
		_, e := s.Bucket(1)
		spoil(a)
		spoil(d)
		if !slices.Equal(b, span(0, n)) || !slices.Equal(e, span(40, 40+n)) {
			t.Errorf("other lists turned to %v, %v", b, e)
		}
		wantStash(t, s, span(0, n)...)
		s.Put(90)
		retired(t, s, 4, 91)
		wantStash(t, s, append(span(0, n), 90)...)
		wantLimbo(t, s, bucket{4, append(span(40, 40+n), 91)})
		wantSpoiled(t, a)
		wantSpoiled(t, d)
		if !slices.Equal(b, span(0, n)) || !slices.Equal(e, span(40, 40+n)) {
			t.Errorf("lists of elder times turned to %v, %v", b, e)
		}
	}
}

// P13.3, P0.4: whatever is written into a Hand, no other one shows it, and the very chunks are pushed; the stash shows none of it.
func TestHandIsNewMemory(t *testing.T) {
	for _, give := range ways {
		for n := 3; n < 12; n++ {
			c := sized(20, 1, 2)
			m, s := pooled(t, c, 19)
			for i := range n {
				s.Put(i)
			}
			g := give(s)
			left := s.Stash()
			want := span(0, n-len(left))
			elder := g.Hand()
			for !g.Done() {
				a, b := g.Hand(), g.Hand()
				spoil(a)
				if !slices.Equal(b, want) || !slices.Equal(elder, want) {
					t.Fatalf("other Hands turned to %v, %v, want %v", b, elder, want)
				}
				wantHand(t, g, want...)
				wantStash(t, s, left...)
				s.Put(18)
				wantChunk(t, s.Take(), 18)
				g.Step()
				wantSpoiled(t, a)
			}
			wantPool(t, m, c, append(want, 19)...)
			if !slices.Equal(elder, want) {
				t.Errorf("behind the end the first Hand is %v, want %v", elder, want)
			}
		}
	}
}

// P13.2, P13.3, P0.4: what a Take has left in the stash, and what a Spill has, are apart.
func TestWhatIsLeftIsApart(t *testing.T) {
	c := sized(20, 2, 8)
	m, s := pooled(t, c, span(0, 10)...)
	through(t, m, taking(t, m, s))
	a := s.Stash()
	g := s.Spill()
	b := g.Hand()
	s.Put(15, 16, 17)
	spoil(s.Stash())
	wantHand(t, g, 1, 2, 3, 4, 5)
	wantStash(t, s, 6, 7, 15, 16, 17)
	through(t, m, g)
	next := s.Spill()
	wantHand(t, next, 6, 7, 15)
	if !slices.Equal(a, span(1, 8)) || !slices.Equal(b, span(1, 6)) {
		t.Errorf("lists of elder times turned to %v, %v", a, b)
	}
}
