package limbo_test

import (
	"math"
	"slices"
	"testing"

	"rundale/api"
	"rundale/limbo"
)

// extremes are numbers far out of all bounds: the ends of all numbers, and those that look small when their upper bits are lost.
var extremes = []int{math.MinInt, math.MinInt + 1, math.MinInt + 2, -1 << 62, -1 << 32, math.MaxInt - 2, math.MaxInt - 1, math.MaxInt}

// held is what a limbo shows: the tag and the items of each bucket.
type held struct {
	tags  [3]int
	items [3][]int
}

// shown is what l shows now.
func shown(l *limbo.Limbo) held {
	var h held
	for k := range 3 {
		h.tags[k], h.items[k] = l.Bucket(k)
	}
	return h
}

// has is what a limbo shows that has these items under these tags, at most one tag a bucket.
func has(under map[int][]int) held {
	var h held
	for tag, items := range under {
		h.tags[tag%3], h.items[tag%3] = tag, items
	}
	return h
}

// wantHas: l has just these items under these tags, by all that shows it and takes nothing out.
func wantHas(t *testing.T, l *limbo.Limbo, under map[int][]int) {
	t.Helper()
	want, got, n := has(under), shown(l), 0
	for k := range 3 {
		n += len(want.items[k])
		if got.tags[k] != want.tags[k] || !slices.Equal(got.items[k], want.items[k]) {
			t.Errorf("Bucket(%d) = %d, %v, want %d, %v", k, got.tags[k], got.items[k], want.tags[k], want.items[k])
		}
	}
	if l.Len() != n {
		t.Errorf("Len = %d, want %d", l.Len(), n)
	}
	soonest := math.MaxInt
	for tag := range under {
		wantOpen(t, l, tag+2, true)
		soonest = min(soonest, tag+1)
	}
	wantOpen(t, l, soonest, false)
}

func wantOpen(t *testing.T, l *limbo.Limbo, now int, want bool) {
	t.Helper()
	if got := l.Open(now); got != want {
		t.Errorf("Open(%d) = %t, want %t", now, got, want)
	}
}

// retire is a Retire that is Fine, and answers none.
func retire(t *testing.T, l *limbo.Limbo, tag int, items ...int) {
	t.Helper()
	wantRetire(t, l, nil, tag, items...)
}

func wantRetire(t *testing.T, l *limbo.Limbo, want []int, tag int, items ...int) {
	t.Helper()
	if got, code := l.Retire(tag, items...); code != api.Fine || !slices.Equal(got, want) {
		t.Errorf("Retire(%d, %v) = %v, %d, want %v, Fine", tag, items, got, code, want)
	}
}

// wantRefused: a Retire is ErrArg, and nothing comes of it.
func wantRefused(t *testing.T, l *limbo.Limbo, tag int, items ...int) {
	t.Helper()
	if got, code := l.Retire(tag, items...); code != api.ErrArg || len(got) > 0 {
		t.Errorf("Retire(%d, %v) = %v, %d, want none, ErrArg", tag, items, got, code)
	}
}

// wantReady: Open tells it ahead, Ready answers it, and behind it there is none.
func wantReady(t *testing.T, l *limbo.Limbo, now int, want ...int) {
	t.Helper()
	wantOpen(t, l, now, len(want) > 0)
	if got := l.Ready(now); !slices.Equal(got, want) {
		t.Errorf("Ready(%d) = %v, want %v", now, got, want)
	}
	wantOpen(t, l, now, false)
	if got := l.Ready(now); len(got) > 0 {
		t.Errorf("Ready(%d) again = %v, want none", now, got)
	}
}

// P7.1, P7.2
func TestExample(t *testing.T) {
	l := limbo.New()
	retire(t, l, 4, 7)
	wantReady(t, l, 5)
	wantReady(t, l, 6, 7)
}

// P7.1, P7.2
func TestNewHasNothing(t *testing.T) {
	l := limbo.New()
	if l == nil {
		t.Fatal("New() is nil")
	}
	wantHas(t, l, nil)
	for _, now := range append([]int{-2, -1, 0, 1, 2, 3, 4, 5, api.MaxEpoch, api.MaxEpoch + 2}, extremes...) {
		wantReady(t, l, now)
	}
	wantHas(t, l, nil)
}

// P7.1
func TestRetireOfOneAndOfMany(t *testing.T) {
	l := limbo.New()
	retire(t, l, 0, 5)
	wantHas(t, l, map[int][]int{0: {5}})
	retire(t, l, 1, 3, 1, 2, 1)
	wantHas(t, l, map[int][]int{0: {5}, 1: {3, 1, 2, 1}})
	// Any number is an item, one that waits already too.
	retire(t, l, 2, append([]int{0, -1, 5}, extremes...)...)
	wantHas(t, l, map[int][]int{0: {5}, 1: {3, 1, 2, 1}, 2: append([]int{0, -1, 5}, extremes...)})
}

// P7.1
func TestRetireUnderTheSameTag(t *testing.T) {
	for _, tag := range []int{0, 1, 2, 3, 7, 1 << 32, api.MaxEpoch - 1, api.MaxEpoch} {
		l := limbo.New()
		retire(t, l, tag, 9, 8)
		retire(t, l, tag, 7)
		retire(t, l, tag, 6, 9)
		wantHas(t, l, map[int][]int{tag: {9, 8, 7, 6, 9}})
		wantReady(t, l, tag+2, 9, 8, 7, 6, 9)
		wantHas(t, l, nil)
		// A bucket that was emptied takes the same tag once more.
		retire(t, l, tag, 5)
		retire(t, l, tag, 4)
		wantHas(t, l, map[int][]int{tag: {5, 4}})
	}
}

// P7.1
func TestRetireAnswersALesserTag(t *testing.T) {
	for _, tag := range []int{0, 1, 2, 5, 1<<32 - 2, api.MaxEpoch - 30} {
		for _, on := range []int{3, 6, 30} {
			l := limbo.New()
			retire(t, l, tag, 4, 2)
			retire(t, l, tag, 3)
			retire(t, l, tag+1, 8)
			retire(t, l, tag+2, 9)
			wantRetire(t, l, []int{4, 2, 3}, tag+on, 1, 0)
			wantHas(t, l, map[int][]int{tag + 1: {8}, tag + 2: {9}, tag + on: {1, 0}})
			// The same tag again is no lesser one.
			retire(t, l, tag+on, 6)
			wantHas(t, l, map[int][]int{tag + 1: {8}, tag + 2: {9}, tag + on: {1, 0, 6}})
			wantReady(t, l, tag+on+2, 8, 9, 1, 0, 6)
		}
	}
}

// P7.1
func TestRetireIntoABucketThatIsEmptyByThen(t *testing.T) {
	l := limbo.New()
	retire(t, l, 4, 1, 2)
	wantReady(t, l, 6, 1, 2)
	retire(t, l, 7, 3)
	wantHas(t, l, map[int][]int{7: {3}})
	wantRetire(t, l, []int{3}, 10, 4)
	wantReady(t, l, 12, 4)
	retire(t, l, 10, 5)
	wantHas(t, l, map[int][]int{10: {5}})
}

// P7.1: only the bucket of the tag is emptied, however far the tag is beyond the others.
func TestRetireLeavesTheOtherBuckets(t *testing.T) {
	for tag := range 3 {
		l := limbo.New()
		retire(t, l, 0, 10)
		retire(t, l, 1, 11)
		retire(t, l, 2, 12)
		under := map[int][]int{0: {10}, 1: {11}, 2: {12}}
		far := api.MaxEpoch - (api.MaxEpoch-tag)%3
		wantRetire(t, l, []int{10 + tag}, far, 5)
		delete(under, tag)
		under[far] = []int{5}
		wantHas(t, l, under)
	}
}

// P7.1, P7.2
func TestTheLeastAndTheGreatestTag(t *testing.T) {
	l := limbo.New()
	retire(t, l, 0, 6)
	wantHas(t, l, map[int][]int{0: {6}})
	wantReady(t, l, 1)
	wantReady(t, l, 2, 6)
	retire(t, l, 0, 7)
	// MaxEpoch is of the bucket 0 too.
	wantRetire(t, l, []int{7}, api.MaxEpoch, 8)
	wantHas(t, l, map[int][]int{api.MaxEpoch: {8}})
	wantReady(t, l, 2)
	wantReady(t, l, api.MaxEpoch)
	wantReady(t, l, api.MaxEpoch+1)
	wantReady(t, l, api.MaxEpoch+2, 8)
	retire(t, l, api.MaxEpoch, 9)
	wantReady(t, l, math.MinInt)
	wantReady(t, l, math.MaxInt, 9)
	wantRefused(t, l, api.MaxEpoch-1, 1)
}

// P7.1
func TestRetireOfNoItems(t *testing.T) {
	l := limbo.New()
	for _, tag := range []int{0, 4, 7, api.MaxEpoch} {
		wantRefused(t, l, tag)
		wantRefused(t, l, tag, []int{}...)
		wantRefused(t, l, tag, []int{1, 2}[:0]...)
	}
	wantHas(t, l, nil)
	retire(t, l, 4, 1)
	for _, tag := range []int{3, 4, 5, 7, api.MaxEpoch, -1} {
		wantRefused(t, l, tag)
	}
	wantHas(t, l, map[int][]int{4: {1}})
}

// P7.1
func TestRetireUnderATagThatIsNone(t *testing.T) {
	none := append([]int{-1, -2, -3, -4, api.MaxEpoch + 1, api.MaxEpoch + 2, api.MaxEpoch + 3, -api.MaxEpoch}, extremes...)
	l := limbo.New()
	for _, tag := range none {
		wantRefused(t, l, tag, 9)
	}
	wantHas(t, l, nil)
	retire(t, l, 0, 1)
	retire(t, l, 1, 2)
	retire(t, l, 2, 3)
	for _, tag := range none {
		wantRefused(t, l, tag, 9)
		wantRefused(t, l, tag, 9, 8)
		wantRefused(t, l, tag)
	}
	wantHas(t, l, map[int][]int{0: {1}, 1: {2}, 2: {3}})
}

// P7.1: an earlier tag counts though its bucket was emptied since, and whichever bucket it was of.
func TestRetireUnderALesserTag(t *testing.T) {
	l := limbo.New()
	retire(t, l, 8, 1)
	for tag := range 8 {
		wantRefused(t, l, tag, 9)
	}
	wantHas(t, l, map[int][]int{8: {1}})
	wantReady(t, l, 10, 1)
	for tag := range 8 {
		wantRefused(t, l, tag, 9)
	}
	wantHas(t, l, nil)
	retire(t, l, 8, 2)
	wantRetire(t, l, []int{2}, 11, 3)
	wantRefused(t, l, 10, 9)
	wantRefused(t, l, 8, 9)
	retire(t, l, 11, 4)
	wantHas(t, l, map[int][]int{11: {3, 4}})
}

// P7.1: what was refused is no earlier tag, and what Ready is asked is none either.
func TestRetireBehindARefusedOne(t *testing.T) {
	for _, first := range []bool{false, true} {
		l := limbo.New()
		under := map[int][]int{}
		if first {
			retire(t, l, 4, 1)
			under[4] = []int{1}
		}
		wantRefused(t, l, 9)
		wantRefused(t, l, api.MaxEpoch)
		wantRefused(t, l, api.MaxEpoch+1, 9)
		wantRefused(t, l, math.MaxInt, 9)
		wantRefused(t, l, -1, 9)
		wantReady(t, l, 5)
		retire(t, l, 5, 2)
		under[5] = []int{2}
		wantHas(t, l, under)
		// Nor does a refused one that is less make less of the earlier one.
		wantRefused(t, l, 3, 9)
		wantRefused(t, l, 4, 9)
		wantHas(t, l, under)
		l.Ready(1000)
		retire(t, l, 5, 3)
		wantHas(t, l, map[int][]int{5: {3}})
	}
}

// P7.2
func TestReadyOfATagAndTwo(t *testing.T) {
	for _, tag := range []int{0, 1, 2, 3, 4, 5, 1<<31 - 1, 1 << 32, 1<<62 - 3, api.MaxEpoch - 1, api.MaxEpoch} {
		for _, now := range []int{math.MinInt, math.MinInt + 1, -1, 0, 1, tag - 1, tag, tag + 1} {
			if now < tag+2 {
				l := limbo.New()
				retire(t, l, tag, 3, 4)
				wantReady(t, l, now)
				wantHas(t, l, map[int][]int{tag: {3, 4}})
			}
		}
		for _, now := range []int{tag + 2, tag + 3, tag + 4, tag + 1000, math.MaxInt - 1, math.MaxInt} {
			l := limbo.New()
			retire(t, l, tag, 3, 4)
			wantReady(t, l, now, 3, 4)
			wantHas(t, l, nil)
		}
	}
}

// P7.2
func TestReadyOfNumbersBelowTwo(t *testing.T) {
	l := limbo.New()
	retire(t, l, 0, 1)
	retire(t, l, 1, 2)
	retire(t, l, 2, 3)
	for _, now := range []int{1, 0, -1, -2, -3, -1 << 32, -1 << 62, math.MinInt + 2, math.MinInt + 1, math.MinInt} {
		wantReady(t, l, now)
	}
	wantHas(t, l, map[int][]int{0: {1}, 1: {2}, 2: {3}})
}

// P7.2: the least tag first, at whichever bucket that stands.
func TestReadyOfSeveralBuckets(t *testing.T) {
	for base := range 6 {
		fresh := func() *limbo.Limbo {
			l := limbo.New()
			retire(t, l, base, 30, 10)
			retire(t, l, base+1, 20)
			retire(t, l, base+2, 0, 40)
			return l
		}
		wantReady(t, fresh(), base+1)
		for beyond, want := range [][]int{{30, 10}, {30, 10, 20}, {30, 10, 20, 0, 40}, {30, 10, 20, 0, 40}} {
			l := fresh()
			wantReady(t, l, base+2+beyond, want...)
			under := map[int][]int{base: {30, 10}, base + 1: {20}, base + 2: {0, 40}}
			for gone := range beyond + 1 {
				delete(under, base+gone)
			}
			wantHas(t, l, under)
			wantReady(t, l, math.MaxInt, []int{30, 10, 20, 0, 40}[len(want):]...)
		}
	}
	// Tags far apart, in each order of the buckets, and with one that is empty between them.
	for _, tags := range [][]int{{3, 7, 11}, {3, 8, 100}, {4, 6, 1 << 41}, {4, 8, 9}, {5, 6, 7}, {5, 7, api.MaxEpoch}, {3, 8}, {4, 6}, {5, 7}, {5, 9}} {
		l := limbo.New()
		var want []int
		for i, tag := range tags {
			retire(t, l, tag, 50-i, i)
			want = append(want, 50-i, i)
		}
		wantReady(t, l, tags[len(tags)-1]+2, want...)
		wantHas(t, l, nil)
	}
}

// P7.2: asking takes nothing out.
func TestOpenTakesNothing(t *testing.T) {
	l := limbo.New()
	retire(t, l, 4, 1)
	retire(t, l, 5, 2)
	for range 3 {
		wantOpen(t, l, 5, false)
		wantOpen(t, l, 6, true)
		wantOpen(t, l, 7, true)
		wantOpen(t, l, math.MaxInt, true)
		wantOpen(t, l, math.MinInt, false)
	}
	wantHas(t, l, map[int][]int{4: {1}, 5: {2}})
	wantReady(t, l, 7, 1, 2)
}

// P7.2
func TestBucket(t *testing.T) {
	l := limbo.New()
	want := func(k, tag int, items ...int) {
		t.Helper()
		for range 2 {
			if n, got := l.Bucket(k); n != tag || !slices.Equal(got, items) {
				t.Errorf("Bucket(%d) = %d, %v, want %d, %v", k, n, got, tag, items)
			}
		}
	}
	none := append([]int{-1, -2, -3, 3, 4, 5, 1 << 32, 1 << 62}, extremes...)
	for _, k := range append([]int{0, 1, 2}, none...) {
		want(k, 0)
	}
	retire(t, l, 7, 5, 6)
	want(0, 0)
	want(1, 7, 5, 6)
	want(2, 0)
	retire(t, l, 9, 4)
	retire(t, l, 11, 3)
	want(0, 9, 4)
	want(1, 7, 5, 6)
	want(2, 11, 3)
	for _, k := range none {
		want(k, 0)
	}
	// A bucket that was emptied has no tag any more.
	wantReady(t, l, 9, 5, 6)
	want(0, 9, 4)
	want(1, 0)
	want(2, 11, 3)
	wantReady(t, l, 13, 4, 3)
	for k := range 3 {
		want(k, 0)
	}
}

// P7.2
func TestLenBehindEachCall(t *testing.T) {
	l := limbo.New()
	want := func(n int) {
		t.Helper()
		for range 2 {
			if l.Len() != n {
				t.Errorf("Len = %d, want %d", l.Len(), n)
			}
		}
	}
	want(0)
	retire(t, l, 3, 1)
	want(1)
	retire(t, l, 3, 1, 2, 3)
	want(4)
	retire(t, l, 4, 5, 6)
	want(6)
	wantRefused(t, l, 3, 1)
	wantRefused(t, l, 5)
	want(6)
	wantRetire(t, l, []int{1, 1, 2, 3}, 6, 7)
	want(3)
	l.Open(6)
	l.Bucket(1)
	want(3)
	wantReady(t, l, 5)
	want(3)
	wantReady(t, l, 6, 5, 6)
	want(1)
	wantReady(t, l, 8, 7)
	want(0)
}

// P7.1, P7.2: many items, and their order.
func TestManyItems(t *testing.T) {
	l := limbo.New()
	var want [3][]int
	for i := range 3000 {
		tag := i / 1000
		retire(t, l, tag, 7*i, -i)
		want[tag] = append(want[tag], 7*i, -i)
	}
	wantHas(t, l, map[int][]int{0: want[0], 1: want[1], 2: want[2]})
	wantRetire(t, l, want[0], 3, want[2]...)
	wantReady(t, l, 5, slices.Concat(want[1], want[2], want[2])...)
}
