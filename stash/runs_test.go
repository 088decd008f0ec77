package stash_test

import (
	"slices"
	"testing"

	"rundale/api"
	"rundale/stash"
)

// The calls of a run below 0; from 0 on it is a Give of so many.
const (
	take = -1 - iota
	over
	all
)

// answer is a list that a stash answered, and what it was then.
type answer struct{ list, was []int }

// told is a stash beside a plain list of what is in it.
type told struct {
	t       *testing.T
	most    int
	s       *stash.Stash
	in      []int
	next    int // the next item: each is another one
	answers []answer
	calls   []int
}

func newTold(t *testing.T, most int) *told {
	return &told{t: t, most: most, s: stash.New(most), next: 1}
}

// do makes a call, and holds its answer and all that the stash shows against the list.
func (x *told) do(call int) {
	x.t.Helper()
	x.calls = append(x.calls, call)
	switch call {
	case take:
		x.take()
	case over:
		x.goOut("Over", x.s.Over(), max(len(x.in)-x.most, 0))
	case all:
		x.goOut("All", x.s.All(), len(x.in))
	default:
		x.give(call)
	}
	x.wantShown()
}

func (x *told) give(many int) {
	items := upTo(x.next, x.next+many)
	x.next += many
	x.in = append(x.in, items...)
	x.s.Give(items...)
	spoil(items)
}

func (x *told) take() {
	x.t.Helper()
	item, ok := x.s.Take()
	if len(x.in) == 0 {
		if item != 0 || ok {
			x.t.Fatalf("most %d: %v: Take = %d, %t, want 0, false", x.most, x.calls, item, ok)
		}
		return
	}
	last := len(x.in) - 1
	if item != x.in[last] || !ok {
		x.t.Fatalf("most %d: %v: Take = %d, %t, want %d, true", x.most, x.calls, item, ok, x.in[last])
	}
	x.in = x.in[:last]
}

// goOut: the stash answered just the first so many of the list, which go.
func (x *told) goOut(name string, got []int, many int) {
	x.t.Helper()
	if !slices.Equal(got, x.in[:many]) {
		x.t.Fatalf("most %d: %v: %s = %v, want %v", x.most, x.calls, name, got, x.in[:many])
	}
	x.in = slices.Clone(x.in[many:])
	x.keep(got)
}

// keep remembers a list: what is done later must not turn it. Behind every other call the list is spoiled: that must turn nothing either.
func (x *told) keep(list []int) {
	if len(x.calls)%2 == 0 {
		spoil(list)
	}
	x.answers = append(x.answers, answer{list, slices.Clone(list)})
}

func (x *told) wantShown() {
	x.t.Helper()
	got := x.s.List()
	if !slices.Equal(got, x.in) || x.s.Len() != len(x.in) {
		x.t.Fatalf("most %d: %v: List = %v, Len = %d, want %v", x.most, x.calls, got, x.s.Len(), x.in)
	}
	x.keep(got)
}

// end: no list that was answered was turned since.
func (x *told) end() {
	x.t.Helper()
	for _, a := range x.answers {
		if !slices.Equal(a.list, a.was) {
			x.t.Fatalf("most %d: %v: a list that was %v became %v", x.most, x.calls, a.was, a.list)
		}
	}
}

// P8.1: every run of six calls, of those that matter.
func TestEveryShortRun(t *testing.T) {
	some := []int{0, 1, 2, 5, take, over, all}
	runs := 1
	for range 6 {
		runs *= len(some)
	}
	for _, most := range []int{0, 2} {
		for run := range runs {
			x := newTold(t, most)
			for range 6 {
				x.do(some[run%len(some)])
				run /= len(some)
			}
			x.end()
		}
	}
}

// P8.1: long runs, at each most there may be.
func TestLongRuns(t *testing.T) {
	for most := range api.MaxCache + 1 {
		x := newTold(t, most)
		drawn := uint64(most + 1)
		for range 400 {
			drawn = drawn*6364136223846793005 + 1442695040888963407
			call := int(drawn>>33)%9 - 3
			// All is seldom: else there would never be many.
			if call == all && drawn>>40%8 > 0 {
				call = 5 + most/4
			}
			x.do(call)
		}
		x.end()
	}
}
