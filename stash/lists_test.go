package stash_test

import (
	"slices"
	"testing"

	"rundale/stash"
)

// spoil writes into all of a list's memory, the room behind its length too.
func spoil(l []int) {
	l = l[:cap(l)]
	for i := range l {
		l[i] = -77
	}
}

// wantSpoiled: nothing has written into a list since it was spoiled.
func wantSpoiled(t *testing.T, l []int) {
	t.Helper()
	for i, v := range l[:cap(l)] {
		if v != -77 {
			t.Errorf("at %d of a list that is the caller's was written %d", i, v)
		}
	}
}

// P8.1, P0.4: what is handed in is neither changed nor kept, and what lies behind it is not touched.
func TestListHandedIn(t *testing.T) {
	for given := range 6 {
		room := []int{4, 1, 3, 6, 2, 5}
		s := stash.New(2)
		s.Give(room[:given]...)
		s.Give(7, 8)
		s.Give(room[given:]...)
		if !slices.Equal(room, []int{4, 1, 3, 6, 2, 5}) {
			t.Errorf("the list that was handed in is %v", room)
		}
		want := slices.Concat(room[:given], []int{7, 8}, room[given:])
		spoil(room)
		wantHas(t, s, want...)
		wantTake(t, s, want[7])
		s.Give(9)
		wantOver(t, s, want[:6]...)
		s.Give(10)
		wantHas(t, s, want[6], 9, 10)
		wantSpoiled(t, room)
	}
}

// P8.1, P0.4: a list that is handed in whole to a stash that is empty again is not kept either.
func TestListHandedInBehindEachCall(t *testing.T) {
	empty := map[string]func(*stash.Stash){
		"New":  func(s *stash.Stash) {},
		"Take": func(s *stash.Stash) { s.Give(5); s.Take() },
		"Over": func(s *stash.Stash) { s.Give(5, 6); s.Over() },
		"All":  func(s *stash.Stash) { s.Give(5, 6); s.All() },
	}
	for name, turn := range empty {
		s := stash.New(0)
		turn(s)
		in := []int{1, 2, 3, 4}
		s.Give(in[:3]...)
		s.Give(8)
		if !slices.Equal(in, []int{1, 2, 3, 4}) {
			t.Errorf("behind %s: the list that was handed in is %v", name, in)
		}
		spoil(in)
		wantHas(t, s, 1, 2, 3, 8)
		wantTake(t, s, 8, 3)
		s.Give(9)
		wantSpoiled(t, in)
		wantOver(t, s, 1, 2, 9)
	}
}

// P8.1, P0.4: whatever is written into a List, no other list and no stash shows it.
func TestListOfAll(t *testing.T) {
	// Of many lengths, grown one by one: so that there may be spare room behind them.
	for n := range 20 {
		s := stash.New(3)
		for i := range n {
			s.Give(i)
		}
		first, second := s.List(), s.List()
		spoil(first)
		if !slices.Equal(second, upTo(0, n)) {
			t.Errorf("one List shows what was written into another one: %v", second)
		}
		wantHas(t, s, upTo(0, n)...)
		spoil(second)
		s.Give(n, n+1)
		wantSpoiled(t, first)
		wantSpoiled(t, second)
		wantHas(t, s, upTo(0, n+2)...)

		third := s.List()
		wantTake(t, s, n+1, n)
		s.Give(99)
		s.Over()
		s.Give(98)
		s.All()
		s.Give(97, 96)
		if !slices.Equal(third, upTo(0, n+2)) {
			t.Errorf("a List became %v", third)
		}
		spoil(third)
		wantHas(t, s, 97, 96)
	}
}

// P8.1, P0.4: what Over took out is the caller's alone, and what stays is the stash's.
func TestListOfOver(t *testing.T) {
	for most := range 6 {
		for over := 1; over < 12; over++ {
			s := stash.New(most)
			for i := range most + over {
				s.Give(i)
			}
			shown, out := s.List(), s.Over()
			s.Give(50)
			s.Give(51, 52)
			if !slices.Equal(out, upTo(0, over)) || !slices.Equal(shown, upTo(0, most+over)) {
				t.Errorf("what Over answered became %v, a List ahead of it %v", out, shown)
			}
			spoil(out)
			spoil(shown)
			want := append(upTo(over, over+most), 50, 51, 52)
			wantHas(t, s, want...)
			next := s.Over()
			if !slices.Equal(next, want[:3]) {
				t.Errorf("Over = %v, want %v", next, want[:3])
			}
			spoil(next)
			wantHas(t, s, want[3:]...)
			s.Take()
			s.Give(60, 61, 62, 63)
			wantSpoiled(t, out)
			wantSpoiled(t, shown)
			wantSpoiled(t, next)
		}
	}
}

// P8.1, P0.4: likewise what All took out.
func TestListTakenOutByAll(t *testing.T) {
	for n := 1; n < 20; n++ {
		s := stash.New(2)
		for i := range n + 1 {
			s.Give(i)
		}
		wantTake(t, s, n)
		shown, out := s.List(), s.All()
		// What comes next is less than there was: it would find room in that memory.
		s.Give(50)
		if !slices.Equal(out, upTo(0, n)) || !slices.Equal(shown, upTo(0, n)) {
			t.Errorf("what All answered became %v, a List ahead of it %v", out, shown)
		}
		spoil(out)
		wantHas(t, s, 50)
		next := s.All()
		spoil(next)
		s.Give(51, 52)
		wantSpoiled(t, out)
		wantSpoiled(t, next)
		wantHas(t, s, 51, 52)
	}
}

// P8.1, P0.4: an answer that is given back is a list like any other.
func TestAnswerGivenBack(t *testing.T) {
	s := with(2, 1, 2, 3, 4)
	out := s.Over()
	s.Give(out...)
	spoil(out)
	wantHas(t, s, 3, 4, 1, 2)
	all := s.All()
	s.Give(all...)
	spoil(all)
	wantHas(t, s, 3, 4, 1, 2)
	list := s.List()
	s.Give(list...)
	spoil(list)
	wantHas(t, s, 3, 4, 1, 2, 3, 4, 1, 2)
	wantOver(t, s, 3, 4, 1, 2, 3, 4)
}

// P0.5: a stash shares nothing with another one.
func TestTwoStashes(t *testing.T) {
	a, b := with(2, 1, 2, 3), stash.New(1)
	wantNothing(t, b)
	b.Give(a.List()...)
	wantOver(t, a, 1)
	wantHas(t, b, 1, 2, 3)
	wantOver(t, b, 1, 2)
	wantHas(t, a, 2, 3)
	b.Give(a.All()...)
	a.Give(9)
	wantHas(t, b, 3, 2, 3)
	wantTake(t, b, 3)
	wantHas(t, a, 9)
	wantNothing(t, stash.New(2))
}
