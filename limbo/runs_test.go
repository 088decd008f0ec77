package limbo_test

import (
	"slices"
	"testing"

	"rundale/api"
	"rundale/limbo"
)

// call is one call of a run: Retire of so many items, or Ready (many is -1). It is at a number beyond the greatest tag that was retired.
type call struct{ beyond, many int }

// waiting is an item that waits, and its tag.
type waiting struct{ tag, item int }

// told is a limbo beside the list of all that waits in it, in the order in which it was retired: that is the order of the tags, too.
type told struct {
	t     *testing.T
	l     *limbo.Limbo
	all   []waiting
	tag   int         // the greatest one that was retired
	next  int         // the next item: each is another one
	tags  map[int]int // of each item that was taken in
	out   map[int]bool
	calls []call
}

func newTold(t *testing.T) *told {
	return &told{t: t, l: limbo.New(), tags: map[int]int{}, out: map[int]bool{}}
}

// do makes a call, and holds its answer and all that the limbo shows against the list.
func (x *told) do(c call) {
	x.t.Helper()
	x.calls = append(x.calls, c)
	at := x.tag + c.beyond
	if c.many < 0 {
		x.ready(at)
	} else {
		x.retire(at, c.many)
	}
	x.wantShown()
}

func (x *told) ready(now int) {
	x.t.Helper()
	want := x.take(func(w waiting) bool { return w.tag+2 <= now })
	if open := x.l.Open(now); open != (len(want) > 0) {
		x.t.Fatalf("%v: Open(%d) = %t", x.calls, now, open)
	}
	got := x.l.Ready(now)
	x.cameOut(now, got)
	if !slices.Equal(got, want) {
		x.t.Fatalf("%v: Ready(%d) = %v, want %v", x.calls, now, got, want)
	}
}

func (x *told) retire(tag, many int) {
	x.t.Helper()
	var items []int
	for range many {
		items = append(items, x.next)
		x.next++
	}
	wrong := many == 0 || tag < x.tag || tag < 0 || tag > api.MaxEpoch
	got, code := x.l.Retire(tag, items...)
	if wrong {
		if code != api.ErrArg || len(got) > 0 {
			x.t.Fatalf("%v: Retire(%d, %v) = %v, %d, want none, ErrArg", x.calls, tag, items, got, code)
		}
		return
	}
	want := x.take(func(w waiting) bool { return w.tag%3 == tag%3 && w.tag < tag })
	x.cameOut(tag, got)
	if code != api.Fine || !slices.Equal(got, want) {
		x.t.Fatalf("%v: Retire(%d, %v) = %v, %d, want %v, Fine", x.calls, tag, items, got, code, want)
	}
	x.tag = tag
	for _, item := range items {
		x.all = append(x.all, waiting{tag, item})
		x.tags[item] = tag
	}
}

// take takes those that go out of the list.
func (x *told) take(goes func(waiting) bool) []int {
	var out []int
	x.all = slices.DeleteFunc(x.all, func(w waiting) bool {
		if goes(w) {
			out = append(out, w.item)
		}
		return goes(w)
	})
	return out
}

// cameOut holds what the limbo answered at that epoch against P7.3 alone: each was taken in, none came out already, and none comes ahead of its tag and 2.
func (x *told) cameOut(now int, items []int) {
	x.t.Helper()
	for _, item := range items {
		tag, in := x.tags[item]
		if !in || x.out[item] || now < tag+2 {
			x.t.Fatalf("%v: the item %d of the tag %d comes out at %d; it is in: %t, was out: %t", x.calls, item, tag, now, in, x.out[item])
		}
		x.out[item] = true
	}
}

func (x *told) wantShown() {
	x.t.Helper()
	var want held
	for _, w := range x.all {
		want.tags[w.tag%3] = w.tag
		want.items[w.tag%3] = append(want.items[w.tag%3], w.item)
	}
	got := shown(x.l)
	for k := range 3 {
		if got.tags[k] != want.tags[k] || !slices.Equal(got.items[k], want.items[k]) {
			x.t.Fatalf("%v: Bucket(%d) = %d, %v, want %d, %v", x.calls, k, got.tags[k], got.items[k], want.tags[k], want.items[k])
		}
	}
	if x.l.Len() != len(x.all) {
		x.t.Fatalf("%v: Len = %d, want %d", x.calls, x.l.Len(), len(x.all))
	}
	for now := x.tag - 5; now <= x.tag+3; now++ {
		want := slices.ContainsFunc(x.all, func(w waiting) bool { return w.tag+2 <= now })
		if x.l.Open(now) != want {
			x.t.Fatalf("%v: Open(%d) = %t, want %t", x.calls, now, !want, want)
		}
	}
}

// drain has all out that waits: then each item that was taken in has come out.
func (x *told) drain() {
	x.t.Helper()
	x.do(call{2, -1})
	if x.l.Len() > 0 || len(x.out) != len(x.tags) {
		x.t.Fatalf("%v: %d items wait, %d came out, of %d", x.calls, x.l.Len(), len(x.out), len(x.tags))
	}
}

// P7.1, P7.2, P7.3: every run of five calls, of those that matter.
func TestEveryShortRun(t *testing.T) {
	some := []call{{0, 1}, {1, 2}, {2, 1}, {3, 1}, {-1, 1}, {4, 0}, {-1, -1}, {0, -1}, {1, -1}, {2, -1}}
	runs := 1
	for range 5 {
		runs *= len(some)
	}
	for run := range runs {
		x := newTold(t)
		for range 5 {
			x.do(some[run%len(some)])
			run /= len(some)
		}
		x.drain()
	}
}

// P7.1, P7.2, P7.3: long runs, from different tags on, some of them beyond the greatest one.
func TestLongRuns(t *testing.T) {
	for seed := range 40 {
		x := newTold(t)
		x.do(call{[]int{0, 1, 2, 1 << 32, api.MaxEpoch - 100}[seed%5], 1})
		drawn := uint64(seed + 1)
		for range 400 {
			drawn = drawn*6364136223846793005 + 1442695040888963407
			x.do(call{int(drawn>>33)%(3+seed%4) - 1, int(drawn>>40)%6 - 1})
		}
		x.drain()
	}
}
