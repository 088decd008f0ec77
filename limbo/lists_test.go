package limbo_test

import (
	"math"
	"slices"
	"testing"

	"rundale/limbo"
)

// spoil writes into all of a list's memory, the room behind its length too.
func spoil(l []int) {
	l = l[:cap(l)]
	for i := range l {
		l[i] = -77
	}
}

// P7.1, P0.4: what is handed in is neither changed nor kept, and what lies behind it is not touched.
func TestListHandedIn(t *testing.T) {
	l := limbo.New()
	room := []int{1, 2, 3, 4, 5, 6}
	retire(t, l, 4, room[:2]...)
	retire(t, l, 4, room[2:3]...)
	retire(t, l, 5, room[:4]...)
	wantRefused(t, l, 3, room[:5]...)
	wantRetire(t, l, []int{1, 2, 3}, 7, room[1:3]...)
	if !slices.Equal(room, []int{1, 2, 3, 4, 5, 6}) {
		t.Errorf("the list that was handed in is %v", room)
	}
	spoil(room)
	wantHas(t, l, map[int][]int{5: {1, 2, 3, 4}, 7: {2, 3}})
	retire(t, l, 7, 8)
	for i, v := range room {
		if v != -77 {
			t.Errorf("a later Retire wrote %d at %d of a list that was handed in", v, i)
		}
	}
	wantReady(t, l, 9, 1, 2, 3, 4, 2, 3, 8)
}

// P7.2, P0.4: whatever is written into a Bucket's items, no other list and no limbo shows it.
func TestListOfABucket(t *testing.T) {
	l := limbo.New()
	// Odd numbers of items, one behind the other: so that there may be spare room behind them.
	for i := range 5 {
		retire(t, l, 4, i)
	}
	retire(t, l, 5, 8, 9)
	_, first := l.Bucket(1)
	_, second := l.Bucket(1)
	spoil(first)
	if !slices.Equal(second, []int{0, 1, 2, 3, 4}) {
		t.Errorf("one Bucket's items show what was written into another one's: %v", second)
	}
	wantHas(t, l, map[int][]int{4: {0, 1, 2, 3, 4}, 5: {8, 9}})
	_, third := l.Bucket(2)
	spoil(third)
	_, before := l.Bucket(2)
	retire(t, l, 5, 10, 11, 12)
	if room := before[:cap(before)]; len(room) > 2 && slices.Contains(room[2:], 10) {
		t.Errorf("a later Retire wrote into the room of a list that was answered: %v", room)
	}
	spoil(before)
	wantRetire(t, l, []int{0, 1, 2, 3, 4}, 7, 1)
	wantReady(t, l, 9, 8, 9, 10, 11, 12, 1)
}

// P7.1, P7.2, P0.4: likewise what Retire and Ready took out: it is the caller's alone.
func TestListTakenOut(t *testing.T) {
	l := limbo.New()
	for i := range 5 {
		retire(t, l, 4, i)
		retire(t, l, 4, 10*i)
	}
	retire(t, l, 5, 6, 7, 8)
	out, _ := l.Retire(7, 1, 2, 3)
	kept := slices.Clone(out)
	retire(t, l, 7, 4)
	retire(t, l, 7, 5)
	if !slices.Equal(out, kept) || len(kept) != 10 {
		t.Errorf("what Retire answered became %v, was %v", out, kept)
	}
	spoil(out)
	wantHas(t, l, map[int][]int{5: {6, 7, 8}, 7: {1, 2, 3, 4, 5}})

	// What comes next into the same bucket is less than it had: it would find room in that memory.
	one := l.Ready(7)
	retire(t, l, 8, 11)
	if !slices.Equal(one, []int{6, 7, 8}) {
		t.Errorf("what Ready answered became %v", one)
	}
	spoil(one)
	wantHas(t, l, map[int][]int{7: {1, 2, 3, 4, 5}, 8: {11}})

	both := l.Ready(10)
	retire(t, l, 10, 21, 22)
	retire(t, l, 11, 31)
	if !slices.Equal(both, []int{1, 2, 3, 4, 5, 11}) {
		t.Errorf("what Ready answered became %v", both)
	}
	spoil(both)
	wantHas(t, l, map[int][]int{10: {21, 22}, 11: {31}})
}

// P0.5: a limbo shares nothing with another one.
func TestTwoLimbos(t *testing.T) {
	a, b := limbo.New(), limbo.New()
	retire(t, a, 7, 1, 2)
	wantHas(t, b, nil)
	retire(t, b, 4, 3)
	wantHas(t, a, map[int][]int{7: {1, 2}})
	wantReady(t, b, math.MaxInt, 3)
	wantHas(t, a, map[int][]int{7: {1, 2}})
	wantRefused(t, a, 4, 9)
	retire(t, b, 4, 9)
	wantHas(t, limbo.New(), nil)
}
