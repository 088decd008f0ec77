package grip_test

import (
	"slices"
	"testing"

	"rundale/api"
	"rundale/grip"
)

// The calls of a run below 0; from 0 on it is a Hold of one of the pairs below.
const (
	pin = -1 - iota
	unpin
)

// nth is a pair for each number: many that lie one behind the other share a slot or a gen.
func nth(n int) pair { return pair{n / 4, n % 4} }

// told is a grip beside what the chapter says of it: how deep, and what is held.
type told struct {
	t     *testing.T
	g     *grip.Grip
	depth int
	held  []pair
	calls []int
}

func newTold(t *testing.T) *told { return &told{t: t, g: grip.New()} }

// do makes a call, and holds its answer and all that the grip shows, of the first so many pairs, against what is told.
func (x *told) do(call, many int) {
	x.t.Helper()
	x.calls = append(x.calls, call)
	switch call {
	case pin:
		x.pin()
	case unpin:
		x.unpin()
	default:
		x.hold(nth(call))
	}
	x.wantShown(many)
}

func (x *told) pin() {
	x.t.Helper()
	first, code := x.depth == 0, api.Fine
	if x.depth == api.MaxPins {
		code = api.PinOverflow
	} else {
		x.depth++
	}
	if f, c := x.g.Pin(); f != first || c != code {
		x.t.Fatalf("%v: Pin = %t, %d, want %t, %d", x.calls, f, c, first, code)
	}
}

func (x *told) unpin() {
	x.t.Helper()
	last, code := x.depth == 1, api.Fine
	if x.depth == 0 {
		code = api.NotPinned
	} else {
		x.depth--
	}
	if last {
		x.held = nil
	}
	if l, c := x.g.Unpin(); l != last || c != code {
		x.t.Fatalf("%v: Unpin = %t, %d, want %t, %d", x.calls, l, c, last, code)
	}
}

func (x *told) hold(p pair) {
	x.t.Helper()
	code := api.Fine
	switch {
	case x.depth == 0:
		code = api.NotPinned
	case slices.Contains(x.held, p):
	case len(x.held) == api.MaxHolds:
		code = api.PinOverflow
	default:
		x.held = append(x.held, p)
	}
	if c := x.g.Hold(p.slot, p.gen); c != code {
		x.t.Fatalf("%v: Hold(%d, %d) = %d, want %d", x.calls, p.slot, p.gen, c, code)
	}
}

func (x *told) wantShown(many int) {
	x.t.Helper()
	if x.g.Depth() != x.depth || x.g.Len() != len(x.held) {
		x.t.Fatalf("%v: Depth = %d, Len = %d, want %d, %d", x.calls, x.g.Depth(), x.g.Len(), x.depth, len(x.held))
	}
	for n := range many {
		p := nth(n)
		if got, want := x.g.Holds(p.slot, p.gen), slices.Contains(x.held, p); got != want {
			x.t.Fatalf("%v: Holds(%d, %d) = %t, want %t", x.calls, p.slot, p.gen, got, want)
		}
	}
}

// P10.1, P10.2: every run of seven calls, of a Pin, an Unpin and Holds of three pairs: from a new grip, and from one that is full.
func TestEveryShortRun(t *testing.T) {
	const long, other = 7, 3
	some := []int{pin, unpin, 0, 1, 2}
	runs := 1
	for range long {
		runs *= len(some)
	}
	for _, full := range []bool{false, true} {
		for run := range runs {
			x := newTold(t)
			if full {
				x.fill(other)
			}
			for range long {
				x.do(some[run%len(some)], other)
				run /= len(some)
			}
		}
	}
}

// fill pins, and leaves room for one more hold, of pairs from the one numbered from on.
func (x *told) fill(from int) {
	x.t.Helper()
	x.do(pin, 0)
	for n := range api.MaxHolds - 1 {
		x.do(from+n, 0)
	}
}

// P10.1, P10.2: long runs, shallow ones and deep ones, with few pairs and many.
func TestLongRuns(t *testing.T) {
	for seed := range 200 {
		x, drawn := newTold(t), uint64(seed+1)
		many := 2 + seed%15
		for range 500 {
			drawn = drawn*6364136223846793005 + 1442695040888963407
			at := int(drawn >> 33)
			// Of the calls that turn the depth, the one or the other is the more frequent for a while: so both of its ends are met.
			switch up := len(x.calls)/40%2 == 0; {
			case at%3 > 0:
				x.do(at/64%many, many)
			case (at/8%4 > 0) == up:
				x.do(pin, many)
			default:
				x.do(unpin, many)
			}
		}
	}
}
