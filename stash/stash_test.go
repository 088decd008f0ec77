package stash_test

import (
	"math"
	"slices"
	"testing"

	"rundale/api"
	"rundale/stash"
)

// extremes are numbers far out of all bounds: the ends of all numbers, and those that look small when their upper bits are lost.
var extremes = []int{math.MinInt, math.MinInt + 1, -1 << 62, -1 << 32, 1 << 32, 1<<32 + 1, 1 << 62, math.MaxInt - 1, math.MaxInt}

// upTo is the numbers from, from + 1, .. below to.
func upTo(from, to int) []int {
	var out []int
	for i := from; i < to; i++ {
		out = append(out, i)
	}
	return out
}

// with is a stash of that most that was given items.
func with(most int, items ...int) *stash.Stash {
	s := stash.New(most)
	s.Give(items...)
	return s
}

// wantHas: s has just these items, in this order, and asking it takes nothing out.
func wantHas(t *testing.T, s *stash.Stash, want ...int) {
	t.Helper()
	for range 2 {
		if got := s.List(); !slices.Equal(got, want) {
			t.Errorf("List = %v, want %v", got, want)
		}
		if s.Len() != len(want) {
			t.Errorf("Len = %d, want %d", s.Len(), len(want))
		}
	}
}

// wantTake: Take answers the items, one behind the other.
func wantTake(t *testing.T, s *stash.Stash, want ...int) {
	t.Helper()
	for _, item := range want {
		if got, ok := s.Take(); got != item || !ok {
			t.Errorf("Take = %d, %t, want %d, true", got, ok, item)
		}
	}
}

// wantNoTake: there is none to take, however often it is asked.
func wantNoTake(t *testing.T, s *stash.Stash) {
	t.Helper()
	for range 2 {
		if got, ok := s.Take(); got != 0 || ok {
			t.Errorf("Take = %d, %t, want 0, false", got, ok)
		}
	}
}

// wantOver: Over answers these, and then none.
func wantOver(t *testing.T, s *stash.Stash, want ...int) {
	t.Helper()
	if got := s.Over(); !slices.Equal(got, want) {
		t.Errorf("Over = %v, want %v", got, want)
	}
	if got := s.Over(); len(got) > 0 {
		t.Errorf("Over again = %v, want none", got)
	}
}

// wantAll: All answers these, and then there is nothing any more.
func wantAll(t *testing.T, s *stash.Stash, want ...int) {
	t.Helper()
	if got := s.All(); !slices.Equal(got, want) {
		t.Errorf("All = %v, want %v", got, want)
	}
	wantNothing(t, s)
}

// wantNothing: there is nothing in it, by all that tells it.
func wantNothing(t *testing.T, s *stash.Stash) {
	t.Helper()
	wantHas(t, s)
	wantNoTake(t, s)
	wantOver(t, s)
	if got := s.All(); len(got) > 0 {
		t.Errorf("All = %v, want none", got)
	}
	wantHas(t, s)
}

// P8.1
func TestExample(t *testing.T) {
	s := with(2, 1, 2, 3)
	wantOver(t, s, 1)
	wantTake(t, s, 3)
	wantHas(t, s, 2)
}

// P8.1
func TestNewHasNothing(t *testing.T) {
	for _, most := range append([]int{-1, 0, 1, 2, api.MaxCache, api.MaxCache + 1}, extremes...) {
		s := stash.New(most)
		if s == nil {
			t.Fatalf("New(%d) is nil", most)
		}
		wantNothing(t, s)
	}
}

// P8.1: most is cut to from 0 to MaxCache.
func TestNewCutsMost(t *testing.T) {
	keeps := map[int]int{}
	for most := range api.MaxCache + 1 {
		keeps[most] = most
	}
	for _, most := range []int{-1, -2, -63, -64, -65, -1 << 62, -1 << 32, math.MinInt + 1, math.MinInt} {
		keeps[most] = 0
	}
	for _, most := range []int{65, 66, 100, 127, 128, 129, 256, 1 << 16, 1 << 32, 1<<32 + 1, 1 << 62, math.MaxInt - 1, math.MaxInt} {
		keeps[most] = api.MaxCache
	}
	for most, kept := range keeps {
		s := with(most, upTo(0, kept)...)
		wantOver(t, s)
		wantHas(t, s, upTo(0, kept)...)
		s.Give(kept)
		wantOver(t, s, 0)
		wantHas(t, s, upTo(1, kept+1)...)
		s.Give(upTo(kept+1, 200)...)
		wantOver(t, s, upTo(1, 200-kept)...)
		wantHas(t, s, upTo(200-kept, 200)...)
	}
}

// P8.1
func TestGiveOfNoneOfOneOfMany(t *testing.T) {
	s := stash.New(2)
	s.Give()
	wantNothing(t, s)
	s.Give([]int{}...)
	s.Give([]int{1, 2}[:0]...)
	wantNothing(t, s)
	s.Give(5)
	wantHas(t, s, 5)
	s.Give()
	wantHas(t, s, 5)
	s.Give(3, 9, 4)
	wantHas(t, s, 5, 3, 9, 4)
	s.Give()
	s.Give(1)
	s.Give(8, 7)
	wantHas(t, s, 5, 3, 9, 4, 1, 8, 7)
}

// P8.1: Give takes in whatever it is given, beyond most too: only Over asks for that.
func TestGiveBeyondMost(t *testing.T) {
	for _, most := range []int{-1, 0, 1, 2, api.MaxCache, math.MaxInt} {
		s := stash.New(most)
		for i := range 500 {
			s.Give(i, -i)
			if s.Len() != 2*i+2 {
				t.Fatalf("most %d: Len = %d, want %d", most, s.Len(), 2*i+2)
			}
		}
		for i := range 500 {
			wantTake(t, s, i-499, 499-i)
		}
		wantNothing(t, s)
	}
}

// P8.1: any number is an item, and the same one may be there more than once.
func TestGiveOfTheSameAndOfAnyNumber(t *testing.T) {
	s := with(3, 5, 5)
	s.Give(5)
	s.Give(0, -1, 5, 0)
	wantHas(t, s, 5, 5, 5, 0, -1, 5, 0)
	wantTake(t, s, 0)
	wantHas(t, s, 5, 5, 5, 0, -1, 5)
	wantOver(t, s, 5, 5, 5)
	wantHas(t, s, 0, -1, 5)
	s.Give(extremes...)
	wantAll(t, s, append([]int{0, -1, 5}, extremes...)...)
	// A 0 that is there is told from none by the true beside it.
	s.Give(0)
	wantTake(t, s, 0)
	wantNoTake(t, s)
}

// P8.1
func TestTakeTillThereIsNone(t *testing.T) {
	for _, most := range []int{0, 1, 3, api.MaxCache} {
		s := with(most, 4, 6)
		s.Give(2)
		wantTake(t, s, 2)
		wantHas(t, s, 4, 6)
		wantTake(t, s, 6)
		wantHas(t, s, 4)
		wantTake(t, s, 4)
		wantNothing(t, s)
		s.Give(9)
		wantTake(t, s, 9)
		wantNothing(t, s)
	}
}

// P8.1: fewer than most, just as many, one more, many more.
func TestOver(t *testing.T) {
	for _, most := range []int{0, 1, 2, 3, 7, api.MaxCache - 1, api.MaxCache} {
		for _, n := range []int{0, most - 1, most, most + 1, most + 2, 2 * most, 2*most + 1, most + 300} {
			n = max(n, 0)
			s := with(most, upTo(10, 10+n)...)
			over := max(n-most, 0)
			wantOver(t, s, upTo(10, 10+over)...)
			wantHas(t, s, upTo(10+over, 10+n)...)
			wantAll(t, s, upTo(10+over, 10+n)...)
		}
	}
}

// P8.1: they come in their order, whatever numbers they are.
func TestOverKeepsTheOrder(t *testing.T) {
	s := with(2, 9, 1, 8, 2, 9)
	wantOver(t, s, 9, 1, 8)
	wantHas(t, s, 2, 9)
	s.Give(0, 5, 3)
	wantOver(t, s, 2, 9, 0)
	wantHas(t, s, 5, 3)
	wantTake(t, s, 3, 5)
	wantNothing(t, s)
}

// P8.1: a Take makes room, and All does.
func TestOverBehindTakeAndAll(t *testing.T) {
	s := with(2, 1, 2, 3, 4)
	wantTake(t, s, 4)
	wantOver(t, s, 1)
	wantTake(t, s, 3)
	s.Give(5)
	wantOver(t, s)
	wantHas(t, s, 2, 5)
	wantAll(t, s, 2, 5)
	s.Give(6, 7)
	wantOver(t, s)
	s.Give(8)
	wantOver(t, s, 6)
	wantHas(t, s, 7, 8)
}

// P8.1
func TestAll(t *testing.T) {
	for _, most := range []int{-1, 0, 1, 2, 3, api.MaxCache, math.MaxInt} {
		wantAll(t, stash.New(most))
		wantAll(t, with(most, 7), 7)
		wantAll(t, with(most, 3, 1, 2, 1), 3, 1, 2, 1)
		wantAll(t, with(most, upTo(0, 1000)...), upTo(0, 1000)...)
	}
}

// P8.1: what is given behind a Take, an Over, an All.
func TestGiveBehindEachCall(t *testing.T) {
	s := with(3, 1, 2, 3, 4, 5, 6)
	wantTake(t, s, 6)
	s.Give(7)
	wantHas(t, s, 1, 2, 3, 4, 5, 7)
	wantTake(t, s, 7, 5)
	s.Give(8, 9)
	wantHas(t, s, 1, 2, 3, 4, 8, 9)
	wantOver(t, s, 1, 2, 3)
	s.Give(10)
	wantHas(t, s, 4, 8, 9, 10)
	wantOver(t, s, 4)
	s.Give(11, 12)
	wantHas(t, s, 8, 9, 10, 11, 12)
	wantAll(t, s, 8, 9, 10, 11, 12)
	s.Give(13)
	wantHas(t, s, 13)
	s.Give(14, 15)
	wantAll(t, s, 13, 14, 15)
}

// P8.1: what only shows it, in whichever order, and Len behind each call.
func TestListAndLenBehindEachCall(t *testing.T) {
	s := stash.New(1)
	want := func(items ...int) {
		t.Helper()
		if s.Len() != len(items) {
			t.Errorf("Len = %d, want %d", s.Len(), len(items))
		}
		wantHas(t, s, items...)
	}
	want()
	s.Take()
	want()
	s.Over()
	want()
	s.All()
	want()
	s.Give()
	want()
	s.Give(4)
	want(4)
	s.Over()
	want(4)
	s.Give(5, 6)
	want(4, 5, 6)
	s.Take()
	want(4, 5)
	s.Over()
	want(5)
	s.Take()
	want()
	s.Give(7, 8)
	want(7, 8)
	s.All()
	want()
}
