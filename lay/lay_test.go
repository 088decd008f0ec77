package lay_test

import (
	"math"
	"testing"

	"rundale/api"
	"rundale/lay"
)

// extremes are numbers far out of all bounds: the ends of all numbers, and those that look small when their upper bits are lost.
var extremes = []int{math.MinInt, math.MinInt + 1, -1 << 62, -1 << 32, 1 << 32, 1<<32 + 1, 1<<32 + 8, 1 << 62, math.MaxInt - 1, math.MaxInt}

var (
	least    = api.Config{Workers: 1, Chunks: 1, Words: 8, Slots: 1, Cache: 0, Batch: 1}
	example  = api.Config{Workers: 2, Chunks: 4, Words: 8, Slots: 3, Cache: 1, Batch: 1}
	unlike   = api.Config{Workers: 5, Chunks: 7, Words: 24, Slots: 11, Cache: 3, Batch: 2}
	greatest = api.Config{Workers: api.MaxWorkers, Chunks: api.MaxChunks, Words: api.MaxWords, Slots: api.MaxSlots, Cache: api.MaxCache, Batch: api.MaxBatch}
)

// thing is what a cell is: its kind, and of which.
type thing struct{ kind, of, at int }

// number is one of the numbers of a configuration, with its bounds.
type number struct {
	name       string
	in         func(c *api.Config) *int
	least, top int
}

func numbers() []number {
	return []number{
		{"Workers", func(c *api.Config) *int { return &c.Workers }, 1, 64},
		{"Chunks", func(c *api.Config) *int { return &c.Chunks }, 1, 4096},
		{"Words", func(c *api.Config) *int { return &c.Words }, 8, 1024},
		{"Slots", func(c *api.Config) *int { return &c.Slots }, 1, 4096},
		{"Cache", func(c *api.Config) *int { return &c.Cache }, 0, 64},
		{"Batch", func(c *api.Config) *int { return &c.Batch }, 1, 8},
	}
}

// with is c with another value of that number.
func with(c api.Config, n number, value int) api.Config {
	*n.in(&c) = value
	return c
}

// wrong are configurations that may not be, each by one number of a right one.
func wrong() (all []api.Config) {
	for _, c := range []api.Config{least, example, greatest} {
		for _, n := range numbers() {
			for _, value := range append([]int{n.least - 1, n.top + 1, -n.top, -1}, extremes...) {
				all = append(all, with(c, n, value))
			}
		}
		words := numbers()[2]
		for _, value := range []int{0, 1, 4, 7, 9, 12, 15, 17, 1016 + 4, 1023, 1032, -8} {
			all = append(all, with(c, words, value))
		}
	}
	return append(all, api.Config{}, api.Config{Workers: -1, Chunks: -1, Words: -8, Slots: -1, Cache: -1, Batch: -1},
		api.Config{Workers: math.MinInt, Chunks: math.MinInt, Words: math.MinInt, Slots: math.MinInt, Cache: math.MinInt, Batch: math.MinInt},
		api.Config{Workers: math.MaxInt, Chunks: math.MaxInt, Words: math.MaxInt, Slots: math.MaxInt, Cache: math.MaxInt, Batch: math.MaxInt})
}

// things are what the cells of c are, one behind the other as the chapter lists them.
func things(c api.Config) []thing {
	all := []thing{{lay.AHead, 0, 0}, {lay.AHead, 1, 0}, {lay.AnEpoch, 0, 0}}
	for worker := range c.Workers {
		all = append(all, thing{lay.APin, worker, 0})
	}
	for slot := range c.Slots {
		all = append(all, thing{lay.ARoot, slot, 0})
	}
	for slot := range c.Slots {
		all = append(all, thing{lay.ASlot, slot, 0})
	}
	for chunk := range c.Chunks {
		all = append(all, thing{lay.ALink, chunk, 0})
	}
	for chunk := range c.Chunks {
		for at := range c.Words {
			all = append(all, thing{lay.AWord, chunk, at})
		}
	}
	return all
}

// cellOf is the cell that the calls give a thing.
func cellOf(c api.Config, x thing) int {
	switch x.kind {
	case lay.AHead:
		return []int{lay.Pool, lay.Spare}[x.of]
	case lay.AnEpoch:
		return lay.Epoch
	case lay.APin:
		return lay.Pin(c, x.of)
	case lay.ARoot:
		return lay.Root(c, x.of)
	case lay.ASlot:
		return lay.Slot(c, x.of)
	case lay.ALink:
		return lay.Link(c, x.of)
	case lay.AWord:
		return lay.Word(c, x.of, x.at)
	}
	return -1
}

// what is What's answer as a thing.
func what(c api.Config, cell int) thing {
	kind, of, at := lay.What(c, cell)
	return thing{kind, of, at}
}

// P4.1
func TestMayAtTheBounds(t *testing.T) {
	for _, c := range []api.Config{least, example, unlike, greatest} {
		if !lay.May(c) {
			t.Errorf("May(%+v) = false, want true", c)
		}
		for _, n := range numbers() {
			for _, value := range []int{n.least, n.top} {
				if one := with(c, n, value); !lay.May(one) {
					t.Errorf("%s at its bound: May(%+v) = false, want true", n.name, one)
				}
			}
		}
	}
}

// P4.1
func TestMayOfEachValue(t *testing.T) {
	for _, n := range numbers() {
		for value := n.least - 20; value <= n.top+20; value++ {
			want := n.least <= value && value <= n.top
			if n.name == "Words" {
				want = want && value%8 == 0
			}
			if got := lay.May(with(example, n, value)); got != want {
				t.Errorf("%s = %d: May = %t, want %t", n.name, value, got, want)
			}
		}
	}
}

// P4.1
func TestMayNotBe(t *testing.T) {
	for _, c := range wrong() {
		if lay.May(c) {
			t.Errorf("May(%+v) = true, want false", c)
		}
	}
}

// P4.2
func TestExample(t *testing.T) {
	if got := lay.Root(example, 0); got != 5 {
		t.Errorf("Root of 0 = %d, want 5", got)
	}
	if got := lay.Word(example, 1, 0); got != 23 {
		t.Errorf("Word of 1, 0 = %d, want 23", got)
	}
	if got := lay.Len(example); got != 47 {
		t.Errorf("Len = %d, want 47", got)
	}
}

// P4.2
func TestNumbersOfTheChapter(t *testing.T) {
	if got := [3]int{lay.Pool, lay.Spare, lay.Epoch}; got != [3]int{0, 1, 2} {
		t.Errorf("Pool, Spare, Epoch = %v", got)
	}
	if got := [7]int{lay.AHead, lay.AnEpoch, lay.APin, lay.ARoot, lay.ASlot, lay.ALink, lay.AWord}; got != [7]int{1, 2, 3, 4, 5, 6, 7} {
		t.Errorf("the kinds = %v", got)
	}
}

// P4.2
func TestLen(t *testing.T) {
	for _, x := range []struct {
		c    api.Config
		want int
	}{
		{least, 3 + 1 + 1 + 1 + 1 + 8},
		{unlike, 3 + 5 + 11 + 11 + 7 + 7*24},
		{greatest, 3 + 64 + 4096 + 4096 + 4096 + 4096*1024},
	} {
		if got := lay.Len(x.c); got != x.want {
			t.Errorf("Len(%+v) = %d, want %d", x.c, got, x.want)
		}
	}
	if lay.Len(greatest) > api.MaxCells {
		t.Error("the greatest configuration has more cells than there may be")
	}
}

// P4.2
func TestCacheAndBatchHaveNoCells(t *testing.T) {
	other := unlike
	other.Cache, other.Batch = api.MaxCache, api.MaxBatch
	if lay.Len(unlike) != lay.Len(other) || lay.Word(unlike, 6, 23) != lay.Word(other, 6, 23) || lay.Root(unlike, 0) != lay.Root(other, 0) {
		t.Error("another Cache and Batch: another place")
	}
}

// P4.2
func TestFirstAndLastOfEachKind(t *testing.T) {
	for _, x := range []struct {
		what      string
		got, want int
	}{
		{"first pin", lay.Pin(unlike, 0), 3}, {"last pin", lay.Pin(unlike, 4), 7},
		{"first root", lay.Root(unlike, 0), 8}, {"last root", lay.Root(unlike, 10), 18},
		{"first slot", lay.Slot(unlike, 0), 19}, {"last slot", lay.Slot(unlike, 10), 29},
		{"first link", lay.Link(unlike, 0), 30}, {"last link", lay.Link(unlike, 6), 36},
		{"first word", lay.Word(unlike, 0, 0), 37}, {"last word of the first chunk", lay.Word(unlike, 0, 23), 60},
		{"first word of the second chunk", lay.Word(unlike, 1, 0), 61}, {"first word of the last chunk", lay.Word(unlike, 6, 0), 181},
		{"last word", lay.Word(unlike, 6, 23), 204}, {"Len", lay.Len(unlike), 205},
		{"last pin of the greatest", lay.Pin(greatest, 63), 66}, {"last root of the greatest", lay.Root(greatest, 4095), 4162},
		{"last slot of the greatest", lay.Slot(greatest, 4095), 8258}, {"last link of the greatest", lay.Link(greatest, 4095), 12354},
		{"last word of the greatest", lay.Word(greatest, 4095, 1023), 12354 + 4096*1024},
	} {
		if x.got != x.want {
			t.Errorf("%s: %d, want %d", x.what, x.got, x.want)
		}
	}
}

// P4.2
func TestWhatAtTheEdgesOfEachKind(t *testing.T) {
	for cell, want := range map[int]thing{
		0: {lay.AHead, 0, 0}, 1: {lay.AHead, 1, 0}, 2: {lay.AnEpoch, 0, 0},
		3: {lay.APin, 0, 0}, 7: {lay.APin, 4, 0}, 8: {lay.ARoot, 0, 0}, 18: {lay.ARoot, 10, 0},
		19: {lay.ASlot, 0, 0}, 29: {lay.ASlot, 10, 0}, 30: {lay.ALink, 0, 0}, 36: {lay.ALink, 6, 0},
		37: {lay.AWord, 0, 0}, 60: {lay.AWord, 0, 23}, 61: {lay.AWord, 1, 0}, 204: {lay.AWord, 6, 23},
	} {
		if got := what(unlike, cell); got != want {
			t.Errorf("What(%d) = %v, want %v", cell, got, want)
		}
	}
}

// P4.2, P4.3
func TestEachCellIsJustOneThing(t *testing.T) {
	some := []api.Config{least, example, unlike, greatest}
	for _, n := range numbers() {
		some = append(some, with(unlike, n, n.least), with(unlike, n, n.top), with(least, n, n.top))
	}
	for _, c := range some {
		all := things(c)
		if got := lay.Len(c); got != len(all) {
			t.Fatalf("Len(%+v) = %d, want %d", c, got, len(all))
		}
		for cell, want := range all {
			if got := what(c, cell); got != want {
				t.Fatalf("What(%+v, %d) = %v, want %v", c, cell, got, want)
			}
			if got := cellOf(c, want); got != cell {
				t.Fatalf("the cell of %v of %+v = %d, want %d", want, c, got, cell)
			}
		}
	}
}

// P4.3
func TestNoTwoThingsShareACell(t *testing.T) {
	for _, c := range []api.Config{least, example, unlike} {
		taken := map[int]thing{}
		for _, x := range things(c) {
			cell := cellOf(c, x)
			if other, is := taken[cell]; is {
				t.Errorf("%v and %v are both cell %d of %+v", other, x, cell, c)
			}
			taken[cell] = x
		}
		if len(taken) != lay.Len(c) {
			t.Errorf("%d cells are something, of %d of %+v", len(taken), lay.Len(c), c)
		}
	}
}

// P4.2
func TestThereIsNoSuchOne(t *testing.T) {
	for _, c := range []api.Config{least, example, unlike, greatest} {
		for _, far := range append([]int{-1, -2, 1 << 20}, extremes...) {
			wantNone(t, c, far, far, far, far)
		}
		wantNone(t, c, c.Workers, c.Slots, c.Chunks, c.Words)
		wantNone(t, c, c.Workers+1, c.Slots+1, c.Chunks+1, c.Words+1)
	}
}

// wantNone asks for a worker, a slot, a chunk and a word that c doesn't have; for the word of a chunk that it has, too, and for a word that chunks have, of that chunk.
func wantNone(t *testing.T, c api.Config, worker, slot, chunk, at int) {
	t.Helper()
	got := [7]int{
		lay.Pin(c, worker), lay.Root(c, slot), lay.Slot(c, slot), lay.Link(c, chunk),
		lay.Word(c, chunk, 0), lay.Word(c, 0, at), lay.Word(c, chunk, at),
	}
	if got != [7]int{-1, -1, -1, -1, -1, -1, -1} {
		t.Errorf("worker %d, slot %d, chunk %d, at %d of %+v: %v, want -1 of each", worker, slot, chunk, at, c, got)
	}
}

// P4.2
func TestWordsBeyondTheirOwnChunk(t *testing.T) {
	for chunk := range example.Chunks {
		for _, at := range []int{-1, 8, 9, -8, 16} {
			if got := lay.Word(example, chunk, at); got != -1 {
				t.Errorf("Word of %d, %d = %d, want -1", chunk, at, got)
			}
		}
		if got := [2]int{lay.Word(example, -1-chunk, 8*(chunk+1)), lay.Word(example, 4+chunk, -8*(chunk+1))}; got != [2]int{-1, -1} {
			t.Errorf("words whose sum is within, of chunks that are not: %v, want -1 of each", got)
		}
	}
}

// P4.2
func TestWhatOfNoCell(t *testing.T) {
	for _, c := range []api.Config{least, example, unlike, greatest} {
		for _, cell := range append([]int{-1, -2, lay.Len(c), lay.Len(c) + 1, api.MaxCells}, extremes...) {
			if got := what(c, cell); got != (thing{}) {
				t.Errorf("What(%+v, %d) = %v, want zeros", c, cell, got)
			}
		}
		if got, want := what(c, lay.Len(c)-1), (thing{lay.AWord, c.Chunks - 1, c.Words - 1}); got != want {
			t.Errorf("What of the last cell of %+v = %v, want %v", c, got, want)
		}
	}
}

// P4.2
func TestEachCallOfAConfigurationThatMayNotBe(t *testing.T) {
	for _, c := range wrong() {
		if got := lay.Len(c); got != 0 {
			t.Errorf("Len(%+v) = %d, want 0", c, got)
		}
		for _, i := range append([]int{-1, 0, 1, 2, 3, 8}, extremes...) {
			wantNone(t, c, i, i, i, i)
			if got := what(c, i); got != (thing{}) {
				t.Errorf("What(%+v, %d) = %v, want zeros", c, i, got)
			}
		}
	}
}
