package grip_test

import (
	"math"
	"slices"
	"testing"

	"rundale/api"
	"rundale/grip"
)

// pair is a slot and a generation.
type pair struct{ slot, gen int }

// numbers are those that a slot or a generation may be: any. Some of them look alike when upper bits or the sign are lost.
var numbers = []int{0, 1, -1, 2, -2, api.MaxSlots, 1 << 16, 1 << 31, -1 << 31, 1<<32 - 1, 1 << 32, 1<<32 + 1, -1 << 32, 1 << 62, -1 << 62, math.MaxInt - 1, math.MaxInt, math.MinInt + 1, math.MinInt}

// pairs are n pairs, each another one: (from, -from), (from + 1, -from - 1) ..
func pairs(from, n int) []pair {
	var out []pair
	for i := range n {
		out = append(out, pair{from + i, -from - i})
	}
	return out
}

// pinned is a grip of that depth with nothing held.
func pinned(t *testing.T, depth int) *grip.Grip {
	t.Helper()
	g := grip.New()
	for i := range depth {
		wantPin(t, g, i == 0, api.Fine)
	}
	wantHas(t, g, depth)
	return g
}

// near are pairs that share one number with p, or both of them the other way round.
func near(p pair) []pair {
	return []pair{
		{p.slot, p.gen + 1}, {p.slot, p.gen - 1}, {p.slot, ^p.gen}, {p.slot, p.gen ^ 1<<32}, {p.slot, p.gen ^ math.MinInt},
		{p.slot + 1, p.gen}, {p.slot - 1, p.gen}, {^p.slot, p.gen}, {p.slot ^ 1<<32, p.gen}, {p.slot ^ math.MinInt, p.gen},
		{p.gen, p.slot}, {-p.slot, -p.gen}, {p.slot + 1, p.gen - 1}, {p.slot - 1, p.gen + 1}, {p.slot + p.gen, 0}, {0, p.slot + p.gen}, {0, 0},
	}
}

// wantHas: g has that Depth and just these held, and asking it turns nothing.
func wantHas(t *testing.T, g *grip.Grip, depth int, held ...pair) {
	t.Helper()
	for range 2 {
		if g.Depth() != depth || g.Len() != len(held) {
			t.Errorf("Depth = %d, Len = %d, want %d, %d", g.Depth(), g.Len(), depth, len(held))
		}
		wantHolds(t, g, pair{}, held)
		for _, p := range held {
			wantHolds(t, g, p, held)
			for _, q := range near(p) {
				wantHolds(t, g, q, held)
			}
		}
	}
}

// wantHolds: Holds of p says whether it is one of those held.
func wantHolds(t *testing.T, g *grip.Grip, p pair, held []pair) {
	t.Helper()
	if got, want := g.Holds(p.slot, p.gen), slices.Contains(held, p); got != want {
		t.Errorf("Holds(%d, %d) = %t, want %t: held are %v", p.slot, p.gen, got, want, held)
	}
}

func wantPin(t *testing.T, g *grip.Grip, first bool, code api.Code) {
	t.Helper()
	if f, c := g.Pin(); f != first || c != code {
		t.Errorf("Pin = %t, %d, want %t, %d", f, c, first, code)
	}
}

func wantUnpin(t *testing.T, g *grip.Grip, last bool, code api.Code) {
	t.Helper()
	if l, c := g.Unpin(); l != last || c != code {
		t.Errorf("Unpin = %t, %d, want %t, %d", l, c, last, code)
	}
}

// wantHold: Hold of each of these answers that code.
func wantHold(t *testing.T, g *grip.Grip, code api.Code, all ...pair) {
	t.Helper()
	for _, p := range all {
		if c := g.Hold(p.slot, p.gen); c != code {
			t.Errorf("Hold(%d, %d) = %d, want %d", p.slot, p.gen, c, code)
		}
	}
}

// P10.1, P10.2
func TestExample(t *testing.T) {
	g := grip.New()
	wantPin(t, g, true, api.Fine)
	wantHold(t, g, api.Fine, pair{1, 1})
	if !g.Holds(1, 1) {
		t.Error("Holds(1, 1) is false while it is pinned")
	}
	wantUnpin(t, g, true, api.Fine)
	if g.Holds(1, 1) {
		t.Error("Holds(1, 1) is true behind the last Unpin")
	}
}

// P10.1, P10.2
func TestNewHasNothing(t *testing.T) {
	g := grip.New()
	if g == nil {
		t.Fatal("New is nil")
	}
	wantHas(t, g, 0)
	for _, slot := range numbers {
		for _, gen := range numbers {
			wantHolds(t, g, pair{slot, gen}, nil)
		}
	}
	wantHas(t, grip.New(), 0)
}

// P10.1: the first Pin, those behind it, the MaxPins-th, and more.
func TestPins(t *testing.T) {
	g := grip.New()
	for i := range api.MaxPins {
		wantPin(t, g, i == 0, api.Fine)
		wantHas(t, g, i+1)
	}
	for range 3 {
		wantPin(t, g, false, api.PinOverflow)
		wantHas(t, g, api.MaxPins)
	}
	// One less, and there is room for one, and no more.
	wantUnpin(t, g, false, api.Fine)
	wantHas(t, g, api.MaxPins-1)
	wantPin(t, g, false, api.Fine)
	wantHas(t, g, api.MaxPins)
	wantPin(t, g, false, api.PinOverflow)
	wantHas(t, g, api.MaxPins)
}

// P10.1: from each depth down to 0, and further.
func TestUnpins(t *testing.T) {
	for depth := range api.MaxPins + 1 {
		g := pinned(t, depth)
		for left := depth - 1; left >= 0; left-- {
			wantUnpin(t, g, left == 0, api.Fine)
			wantHas(t, g, left)
		}
		for range 3 {
			wantUnpin(t, g, false, api.NotPinned)
			wantHas(t, g, 0)
		}
		// What was refused is not owed: the next Pin is the first one again, and its Unpin the last one.
		wantPin(t, g, true, api.Fine)
		wantPin(t, g, false, api.Fine)
		wantHas(t, g, 2)
		wantUnpin(t, g, false, api.Fine)
		wantUnpin(t, g, true, api.Fine)
		wantHas(t, g, 0)
	}
}

// P10.1: Pins that were refused need no Unpin.
func TestUnpinsBehindPinOverflow(t *testing.T) {
	g := pinned(t, api.MaxPins)
	wantHold(t, g, api.Fine, pair{4, 2})
	for range 20 {
		wantPin(t, g, false, api.PinOverflow)
	}
	wantHas(t, g, api.MaxPins, pair{4, 2})
	for left := api.MaxPins - 1; left > 0; left-- {
		wantUnpin(t, g, false, api.Fine)
		wantHas(t, g, left, pair{4, 2})
	}
	wantUnpin(t, g, true, api.Fine)
	wantUnpin(t, g, false, api.NotPinned)
	wantHas(t, g, 0)
}

// P10.2: at Depth 0, of a new one and of one that was pinned, with or without holds.
func TestHoldNotPinned(t *testing.T) {
	ended := pinned(t, 2)
	wantHold(t, ended, api.Fine, pairs(0, api.MaxHolds)...)
	wantUnpin(t, ended, false, api.Fine)
	wantUnpin(t, ended, true, api.Fine)
	empty := pinned(t, 1)
	wantUnpin(t, empty, true, api.Fine)
	refused := grip.New()
	wantUnpin(t, refused, false, api.NotPinned)
	for _, g := range []*grip.Grip{grip.New(), ended, empty, refused} {
		for _, p := range append(pairs(-3, 20), pair{1, 1}, pair{math.MaxInt, math.MinInt}) {
			wantHold(t, g, api.NotPinned, p, p)
			wantHas(t, g, 0)
			wantHolds(t, g, p, nil)
		}
		// Nothing of it is held with the next Pin either, and all the room is there.
		wantPin(t, g, true, api.Fine)
		wantHas(t, g, 1)
		wantHold(t, g, api.Fine, pairs(50, api.MaxHolds)...)
		wantHas(t, g, 1, pairs(50, api.MaxHolds)...)
	}
}

// P10.2: from the first one to the MaxHolds-th, each of them again, and others behind it; at each depth.
func TestHolds(t *testing.T) {
	for depth := 1; depth <= api.MaxPins; depth++ {
		g := pinned(t, depth)
		all := pairs(3, api.MaxHolds)
		for n := range all {
			wantHold(t, g, api.Fine, all[n])
			wantHas(t, g, depth, all[:n+1]...)
			for range 2 {
				wantHold(t, g, api.Fine, all[:n+1]...)
				wantHas(t, g, depth, all[:n+1]...)
			}
		}
		for _, p := range pairs(3+api.MaxHolds, 3) {
			wantHold(t, g, api.PinOverflow, p, p)
			wantHas(t, g, depth, all...)
			wantHolds(t, g, p, all)
			wantHold(t, g, api.Fine, all...)
			wantHas(t, g, depth, all...)
		}
	}
}

// P10.2: what is told of one that is held already comes ahead of the bound, of what differs from it behind.
func TestHoldOfNearOnesWhenFull(t *testing.T) {
	g := pinned(t, 1)
	all := pairs(100, api.MaxHolds)
	wantHold(t, g, api.Fine, all...)
	for _, p := range all {
		for _, q := range near(p) {
			if !slices.Contains(all, q) {
				wantHold(t, g, api.PinOverflow, q)
			}
			wantHold(t, g, api.Fine, p)
		}
	}
	wantHas(t, g, 1, all...)
}

// P10.2: a pair is another one if it differs in one number alone.
func TestHoldOfPairsThatDifferInOne(t *testing.T) {
	for _, p := range []pair{{5, 7}, {0, 1}, {-1, 1}, {1 << 32, 3}, {math.MaxInt, math.MinInt}} {
		for _, q := range near(p) {
			if q == p {
				continue
			}
			g := pinned(t, 1)
			wantHold(t, g, api.Fine, p)
			wantHas(t, g, 1, p)
			wantHold(t, g, api.Fine, q)
			wantHas(t, g, 1, p, q)
		}
	}
	same := pinned(t, 3)
	var slot, gen []pair
	for i := range api.MaxHolds {
		slot, gen = append(slot, pair{6, i}), append(gen, pair{i, 6})
	}
	wantHold(t, same, api.Fine, slot...)
	wantHas(t, same, 3, slot...)
	other := pinned(t, 3)
	wantHold(t, other, api.Fine, gen...)
	wantHas(t, other, 3, gen...)
}

// P10.2, P0.1: any two numbers.
func TestHoldOfAnyNumbers(t *testing.T) {
	for _, slot := range numbers {
		for _, gen := range numbers {
			g, p := pinned(t, 1), pair{slot, gen}
			wantHold(t, g, api.Fine, p, p)
			wantHas(t, g, 1, p)
			for _, n := range numbers {
				wantHolds(t, g, pair{slot, n}, []pair{p})
				wantHolds(t, g, pair{n, gen}, []pair{p})
			}
			wantUnpin(t, g, true, api.Fine)
			wantHas(t, g, 0)
			wantHolds(t, g, p, nil)
		}
	}
}

// P10.2: (0, 0) is a pair like any other: held only when it was.
func TestHoldOfZeros(t *testing.T) {
	g := pinned(t, 1)
	wantHold(t, g, api.Fine, pair{1, 1})
	wantHas(t, g, 1, pair{1, 1})
	wantHold(t, g, api.Fine, pair{})
	wantHas(t, g, 1, pair{1, 1}, pair{})
	wantHold(t, g, api.Fine, pair{})
	wantHas(t, g, 1, pair{1, 1}, pair{})
	wantUnpin(t, g, true, api.Fine)
	wantHas(t, g, 0)
}

// P10.1, P10.2: what is held stays, however deep, and goes with the last Unpin alone, at whichever depth it was held.
func TestHoldsStayTillTheLastUnpin(t *testing.T) {
	for at := 1; at <= api.MaxPins; at++ {
		for _, many := range []int{1, 2, api.MaxHolds} {
			all := pairs(9, many)
			g := pinned(t, at)
			wantHold(t, g, api.Fine, all...)
			for depth := at + 1; depth <= api.MaxPins; depth++ {
				wantPin(t, g, false, api.Fine)
				wantHas(t, g, depth, all...)
			}
			wantPin(t, g, false, api.PinOverflow)
			wantHas(t, g, api.MaxPins, all...)
			for depth := api.MaxPins - 1; depth > 0; depth-- {
				wantUnpin(t, g, false, api.Fine)
				wantHas(t, g, depth, all...)
			}
			wantUnpin(t, g, true, api.Fine)
			wantHas(t, g, 0)
			for _, p := range all {
				wantHolds(t, g, p, nil)
			}
		}
	}
}

// P10.1, P10.2: holds of several depths are one list: none of them has a bound or an end of its own.
func TestHoldsOfSeveralDepths(t *testing.T) {
	g, all := grip.New(), pairs(20, api.MaxHolds)
	for i, p := range all {
		wantPin(t, g, i == 0, api.Fine)
		wantHold(t, g, api.Fine, p)
		wantHas(t, g, i+1, all[:i+1]...)
	}
	wantPin(t, g, false, api.Fine)
	for depth := api.MaxHolds; depth > 0; depth-- {
		wantHold(t, g, api.PinOverflow, pair{-5, 5})
		wantUnpin(t, g, false, api.Fine)
		wantHas(t, g, depth, all...)
	}
	wantHold(t, g, api.PinOverflow, pair{-5, 5})
	wantUnpin(t, g, true, api.Fine)
	wantHas(t, g, 0)
}

// P10.1, P10.2: behind the last Unpin there is room for all anew: the same, others, or some of both.
func TestAnewBehindTheLastUnpin(t *testing.T) {
	g := grip.New()
	for round := range 10 {
		depth := 1 + round%3
		wantPin(t, g, true, api.Fine)
		wantHas(t, g, 1)
		for i := 1; i < depth; i++ {
			wantPin(t, g, false, api.Fine)
		}
		old, all := pairs(round*3-3, api.MaxHolds), pairs(round*3, api.MaxHolds)
		for _, p := range old {
			wantHolds(t, g, p, nil)
		}
		for n, p := range all {
			wantHold(t, g, api.Fine, p)
			wantHas(t, g, depth, all[:n+1]...)
			for _, q := range old {
				wantHolds(t, g, q, all[:n+1])
			}
		}
		wantHold(t, g, api.PinOverflow, pair{1, 1})
		for i := depth; i > 0; i-- {
			wantUnpin(t, g, i == 1, api.Fine)
		}
		wantHas(t, g, 0)
	}
}

// P0.5: neither of two turns the other, whatever is done to one.
func TestTwoGrips(t *testing.T) {
	a, b := grip.New(), grip.New()
	wantPin(t, a, true, api.Fine)
	wantHas(t, b, 0)
	wantHold(t, b, api.NotPinned, pair{1, 1})
	wantHold(t, a, api.Fine, pair{1, 1})
	wantHas(t, b, 0)
	wantPin(t, b, true, api.Fine)
	wantHas(t, a, 1, pair{1, 1})
	wantHas(t, b, 1)

	wantHold(t, a, api.Fine, pairs(2, api.MaxHolds-1)...)
	wantHold(t, b, api.Fine, pair{1, 1}, pair{8, 9})
	whole := append([]pair{{1, 1}}, pairs(2, api.MaxHolds-1)...)
	wantHas(t, a, 1, whole...)
	wantHas(t, b, 1, pair{1, 1}, pair{8, 9})
	wantHold(t, a, api.PinOverflow, pair{8, 9})

	for i := 1; i < api.MaxPins; i++ {
		wantPin(t, b, false, api.Fine)
	}
	wantPin(t, b, false, api.PinOverflow)
	wantHas(t, a, 1, whole...)
	wantUnpin(t, a, true, api.Fine)
	wantHas(t, a, 0)
	wantHas(t, b, api.MaxPins, pair{1, 1}, pair{8, 9})
	wantUnpin(t, a, false, api.NotPinned)
	wantPin(t, a, true, api.Fine)
	wantHold(t, a, api.Fine, pair{8, 9})
	for i := api.MaxPins; i > 0; i-- {
		wantUnpin(t, b, i == 1, api.Fine)
	}
	wantHas(t, b, 0)
	wantHas(t, a, 1, pair{8, 9})
	wantHas(t, grip.New(), 0)
}
