package word_test

import (
	"math"
	"testing"

	"rundale/api"
	"rundale/word"
)

// anyWords are words of all kinds: even and odd, a single bit each, all bits but one, and some in between.
func anyWords() []uint64 {
	all := []uint64{0, 3, math.MaxUint64, 0x0123456789abcdef, 0xfedcba9876543210, 0xaaaaaaaaaaaaaaaa, 0x5555555555555555}
	for bit := range 64 {
		all = append(all, 1<<bit, ^(uint64(1) << bit), 1<<bit-1)
	}
	return all
}

// edges are numbers at and near the ends of least to most, all within.
func edges(least, most int) []int {
	return []int{least, least + 1, least + (most-least)/2, most - 1, most}
}

// outside are numbers that are not from least to most: one beyond on each side, and the ends of all numbers.
func outside(least, most int) []int {
	return []int{least - 1, most + 1, least - (1 << 32), most + (1 << 32), math.MinInt, math.MaxInt}
}

// heads are heads that may be put, each number at its least and greatest place.
func heads() (all []word.Head) {
	for _, index := range edges(-1, api.MaxTag-1) {
		for _, tag := range edges(0, api.MaxTag) {
			all = append(all, word.Head{Index: index, Tag: tag})
		}
	}
	return all
}

// roots are roots that may be put, each number at its least and greatest place.
func roots() (all []word.Root) {
	for _, gen := range edges(0, api.MaxTag) {
		for _, mark := range []int{word.Gone, word.Bare, word.First, 9, api.MaxChunks, api.MaxChunks + 1} {
			for class := range api.MaxClass + 1 {
				for _, off := range edges(0, api.MaxWords) {
					all = append(all, word.Root{Gen: gen, Mark: mark, Class: class, Off: off})
				}
			}
		}
	}
	return all
}

// P2.1
func TestHeadAsWord(t *testing.T) {
	for _, c := range []struct {
		head word.Head
		want uint64
	}{
		{word.Head{Index: -1, Tag: 0}, 0},
		{word.Head{Index: 0, Tag: 0}, 1},
		{word.Head{Index: 6, Tag: 9}, 9<<32 | 7},
		{word.Head{Index: -1, Tag: 1}, 1 << 32},
		{word.Head{Index: -1, Tag: api.MaxTag}, api.MaxTag << 32},
		{word.Head{Index: api.MaxTag - 1, Tag: 0}, api.MaxTag},
		{word.Head{Index: api.MaxTag - 1, Tag: api.MaxTag}, math.MaxUint64},
	} {
		if w, ok := word.PutHead(c.head); w != c.want || !ok {
			t.Errorf("PutHead(%v) = %#x, %v; want %#x, true", c.head, w, ok, c.want)
		}
	}
}

// P2.1
func TestHeadsThatAreNone(t *testing.T) {
	var wrong []word.Head
	for _, index := range outside(-1, api.MaxTag-1) {
		wrong = append(wrong, word.Head{Index: index}, word.Head{Index: index, Tag: api.MaxTag}, word.Head{Index: index, Tag: -1})
	}
	for _, tag := range outside(0, api.MaxTag) {
		wrong = append(wrong, word.Head{Index: -1, Tag: tag}, word.Head{Index: api.MaxTag - 1, Tag: tag}, word.Head{Index: api.MaxTag, Tag: tag})
	}
	for _, h := range wrong {
		if w, ok := word.PutHead(h); w != 0 || ok {
			t.Errorf("PutHead(%v) = %#x, %v; want 0, false", h, w, ok)
		}
	}
}

// P2.1
func TestHeadOfAnyWord(t *testing.T) {
	for _, w := range anyWords() {
		want := word.Head{Index: int(w&0xffffffff) - 1, Tag: int(w >> 32)}
		if h := word.GetHead(w); h != want {
			t.Errorf("GetHead(%#x) = %v; want %v", w, h, want)
		}
	}
}

// P2.1
func TestNext(t *testing.T) {
	tags := map[int]int{0: 1, 1: 2, 41: 42, api.MaxTag - 1: api.MaxTag, api.MaxTag: 0}
	for _, tag := range outside(0, api.MaxTag) {
		tags[tag] = 0
	}
	for tag, want := range tags {
		for _, index := range []int{-1, 0, 7, api.MaxTag - 1, api.MaxTag, -2, math.MinInt, math.MaxInt} {
			for _, old := range []int{-1, 3, math.MaxInt} {
				h := word.Next(word.Head{Index: old, Tag: tag}, index)
				if h != (word.Head{Index: index, Tag: want}) {
					t.Errorf("Next({%d %d}, %d) = %v; want Tag %d", old, tag, index, h, want)
				}
			}
		}
	}
}

// P2.2
func TestMarks(t *testing.T) {
	if word.Gone != 0 || word.Bare != 1 || word.First != 2 {
		t.Errorf("Gone, Bare, First = %d, %d, %d; want 0, 1, 2", word.Gone, word.Bare, word.First)
	}
}

// P2.2
func TestRootAsWord(t *testing.T) {
	for _, c := range []struct {
		root word.Root
		want uint64
	}{
		{word.Root{}, 0},
		{word.Root{Gen: 1, Mark: 2, Class: 0, Off: 8}, 0x1_0002_0008},
		{word.Root{Gen: 5, Mark: 4, Class: 3, Off: 2}, 0x5_0004_3002},
		{word.Root{Gen: api.MaxTag}, 0xffffffff_0000_0000},
		{word.Root{Mark: api.MaxChunks + 1}, 0x1001_0000},
		{word.Root{Class: api.MaxClass}, 0x3000},
		{word.Root{Off: api.MaxWords}, 0x400},
	} {
		if w, ok := word.PutRoot(c.root); w != c.want || !ok {
			t.Errorf("PutRoot(%v) = %#x, %v; want %#x, true", c.root, w, ok, c.want)
		}
	}
}

// P2.2
func TestRootsThatAreNone(t *testing.T) {
	var wrong []word.Root
	for _, good := range []word.Root{{}, {Gen: api.MaxTag, Mark: api.MaxChunks + 1, Class: api.MaxClass, Off: api.MaxWords}} {
		for _, n := range outside(0, api.MaxTag) {
			wrong = append(wrong, word.Root{Gen: n, Mark: good.Mark, Class: good.Class, Off: good.Off})
		}
		for _, n := range outside(0, api.MaxChunks+1) {
			wrong = append(wrong, word.Root{Gen: good.Gen, Mark: n, Class: good.Class, Off: good.Off})
		}
		for _, n := range outside(0, api.MaxClass) {
			wrong = append(wrong, word.Root{Gen: good.Gen, Mark: good.Mark, Class: n, Off: good.Off})
		}
		for _, n := range outside(0, api.MaxWords) {
			wrong = append(wrong, word.Root{Gen: good.Gen, Mark: good.Mark, Class: good.Class, Off: n})
		}
	}
	wrong = append(wrong, word.Root{Mark: 0xffff}, word.Root{Class: 0xf}, word.Root{Off: 0xfff}, word.Root{Gen: -1, Mark: -1, Class: -1, Off: -1})
	for _, r := range wrong {
		if w, ok := word.PutRoot(r); w != 0 || ok {
			t.Errorf("PutRoot(%v) = %#x, %v; want 0, false", r, w, ok)
		}
	}
}

// P2.2
func TestRootOfAnyWord(t *testing.T) {
	for _, w := range anyWords() {
		want := word.Root{Gen: int(w >> 32), Mark: int(w >> 16 & 0xffff), Class: int(w >> 12 & 0xf), Off: int(w & 0xfff)}
		if r := word.GetRoot(w); r != want {
			t.Errorf("GetRoot(%#x) = %v; want %v", w, r, want)
		}
	}
}

// P2.2
func TestLive(t *testing.T) {
	marks := map[int]bool{word.Gone: false, word.Bare: true, word.First: true, api.MaxChunks + 1: true, 0xffff: true, math.MaxInt: true, -1: false, math.MinInt: false}
	for mark, want := range marks {
		for _, gen := range []int{0, 1, api.MaxTag, -1, math.MinInt, math.MaxInt} {
			r := word.Root{Gen: gen, Mark: mark, Class: 1, Off: 4}
			if got := word.Live(r, gen); got != want {
				t.Errorf("Live(%v, %d) = %v; want %v", r, gen, got, want)
			}
			for _, other := range []int{gen - 1, gen + 1, gen + 1<<32} {
				if word.Live(r, other) {
					t.Errorf("Live(%v, %d) = true: another generation", r, other)
				}
			}
		}
	}
}

// P2.2
func TestChunk(t *testing.T) {
	marks := map[int]int{
		word.Gone: -1, word.Bare: -1, word.First: 0, word.First + 1: 1, api.MaxChunks + 1: api.MaxChunks - 1,
		0xffff: 0xfffd, math.MaxInt: math.MaxInt - 2, -1: -1, -2: -1, math.MinInt: -1,
	}
	for mark, want := range marks {
		for _, r := range []word.Root{{Mark: mark}, {Gen: 1, Mark: mark, Class: 2, Off: 8}} {
			if got := word.Chunk(r); got != want {
				t.Errorf("Chunk(%v) = %d; want %d", r, got, want)
			}
		}
	}
}

// P2.3
func TestPinAsWord(t *testing.T) {
	for epoch, want := range map[int]uint64{0: 1, 1: 3, 5: 11, 1 << 32: 1<<33 + 1, api.MaxEpoch - 1: 1<<63 - 3, api.MaxEpoch: 1<<63 - 1} {
		if w, ok := word.PutPin(epoch); w != want || !ok {
			t.Errorf("PutPin(%d) = %d, %v; want %d, true", epoch, w, ok, want)
		}
	}
	for _, epoch := range outside(0, api.MaxEpoch) {
		if w, ok := word.PutPin(epoch); w != 0 || ok {
			t.Errorf("PutPin(%d) = %d, %v; want 0, false", epoch, w, ok)
		}
	}
}

// P2.3
func TestPinOfAnyWord(t *testing.T) {
	for _, w := range anyWords() {
		want, pinned := int(w>>1), w&1 == 1
		if !pinned {
			want = 0
		}
		if epoch, ok := word.GetPin(w); epoch != want || ok != pinned {
			t.Errorf("GetPin(%#x) = %d, %v; want %d, %v", w, epoch, ok, want, pinned)
		}
	}
}

// P2.4
func TestWhatIsPutIsGot(t *testing.T) {
	for _, h := range heads() {
		if w, ok := word.PutHead(h); !ok || word.GetHead(w) != h {
			t.Errorf("head %v: put as %#x, %v, got as %v", h, w, ok, word.GetHead(w))
		}
	}
	for _, r := range roots() {
		if w, ok := word.PutRoot(r); !ok || word.GetRoot(w) != r {
			t.Errorf("root %v: put as %#x, %v, got as %v", r, w, ok, word.GetRoot(w))
		}
	}
	for _, epoch := range edges(0, api.MaxEpoch) {
		w, put := word.PutPin(epoch)
		if got, pinned := word.GetPin(w); !put || !pinned || got != epoch {
			t.Errorf("pin %d: put as %#x, %v, got as %d, %v", epoch, w, put, got, pinned)
		}
	}
}

// P2.4
func TestEachWordIsAHead(t *testing.T) {
	for _, w := range anyWords() {
		if back, ok := word.PutHead(word.GetHead(w)); back != w || !ok {
			t.Errorf("PutHead(GetHead(%#x)) = %#x, %v", w, back, ok)
		}
	}
}

// P2.4
func TestUnlikeOnesHaveUnlikeWords(t *testing.T) {
	ofHead := map[uint64]word.Head{}
	for _, h := range heads() {
		w, _ := word.PutHead(h)
		if other, met := ofHead[w]; met {
			t.Errorf("heads %v and %v are both %#x", h, other, w)
		}
		ofHead[w] = h
	}
	ofRoot := map[uint64]word.Root{}
	for _, r := range roots() {
		w, _ := word.PutRoot(r)
		if other, met := ofRoot[w]; met {
			t.Errorf("roots %v and %v are both %#x", r, other, w)
		}
		ofRoot[w] = r
	}
	ofPin := map[uint64]int{}
	for _, epoch := range edges(0, api.MaxEpoch) {
		w, _ := word.PutPin(epoch)
		if other, met := ofPin[w]; met {
			t.Errorf("epochs %d and %d are both %#x", epoch, other, w)
		}
		ofPin[w] = epoch
	}
}
