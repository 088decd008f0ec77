package chain_test

import (
	"math"
	"slices"
	"testing"

	"rundale/api"
	"rundale/cells"
	"rundale/chain"
)

// extremes are numbers far out of all bounds: the ends of all numbers, and those that look small when their upper bits are lost.
var extremes = []int{math.MinInt, math.MinInt + 1, -1 << 62, -1 << 32, 1 << 32, 1<<32 + 1, 1 << 62, math.MaxInt - 1, math.MaxInt}

// poolHead is the cell of the pool's head, by the document's words.
const poolHead = 0

// configs may all be; the last one is the greatest.
var configs = []api.Config{
	{Workers: 1, Chunks: 1, Words: 8, Slots: 1, Cache: 0, Batch: 1},
	{Workers: 2, Chunks: 4, Words: 8, Slots: 3, Cache: 1, Batch: 2},
	{Workers: 1, Chunks: 9, Words: 16, Slots: 5, Cache: 3, Batch: 8},
	{Workers: 64, Chunks: 2, Words: 24, Slots: 70, Cache: 64, Batch: 2},
	{Workers: 3, Chunks: 40, Words: 8, Slots: 1, Cache: 0, Batch: 1},
	{Workers: api.MaxWorkers, Chunks: api.MaxChunks, Words: api.MaxWords, Slots: api.MaxSlots, Cache: api.MaxCache, Batch: api.MaxBatch},
}

// machine is what a Set, a Walk, a Push and a Pop have in common.
type machine interface {
	Step() bool
	Done() bool
}

// chunks is a configuration with so many chunks.
func chunks(n int) api.Config {
	return api.Config{Workers: 2, Chunks: n, Words: 8, Slots: 3, Cache: 1, Batch: 2}
}

// linkAt and size are where a chunk's link stands, and how many cells there are, by the document's words.
func linkAt(c api.Config, chunk int) int { return 3 + c.Workers + 2*c.Slots + chunk }

func size(c api.Config) int { return 3 + c.Workers + 2*c.Slots + c.Chunks + c.Chunks*c.Words }

// head and link are words, by the document's words; -1: none.
func head(index, tag int) uint64 { return uint64(tag)<<32 | uint64(index+1) }

func link(to int) uint64 { return uint64(to + 1) }

// beyond are the words of links of n chunks that tell none, though they aren't 0: more than n, be it by their upper bits alone.
func beyond(n int) []uint64 {
	k := uint64(n)
	return []uint64{k + 1, k + 2, 1 << 31, 1 << 32, 1<<32 + 1, 1<<32 + k, 1 << 48, 1<<62 + 1, 1 << 63, 1<<63 + 1, 1<<63 + k, math.MaxUint64 - 1, math.MaxUint64}
}

// made is a memory of n cells, the cell at of which holds v and at.
func made(t *testing.T, n int, v uint64) *cells.Cells {
	t.Helper()
	m, code := cells.New(n)
	if code != api.Fine {
		t.Fatalf("cells.New(%d): %d", n, code)
	}
	for at := range n {
		m.Lay(at, v+uint64(at))
	}
	return m
}

// over is the chains of c over m's cells, which as they are made do no access.
func over(t *testing.T, m *cells.Cells, c api.Config) *chain.Chains {
	t.Helper()
	count, words := m.Count(), held(m)
	x, code := chain.New(m, c)
	if x == nil || code != api.Fine {
		t.Fatalf("New(%+v) = %v, %d, want chains and Fine", c, x, code)
	}
	wantUntouched(t, m, count, words)
	return x
}

// filled is chains that were filled, over cells that held something else ahead of it.
func filled(t *testing.T, c api.Config) (*cells.Cells, *chain.Chains) {
	t.Helper()
	m := made(t, size(c), 1<<40+777)
	x := over(t, m, c)
	x.Fill()
	return m, x
}

// laid is chains of as many chunks as there are links, which hold these words.
func laid(t *testing.T, links ...uint64) (*cells.Cells, *chain.Chains) {
	t.Helper()
	c := chunks(len(links))
	m := made(t, size(c), 1<<40+777)
	for i, w := range links {
		m.Lay(linkAt(c, i), w)
	}
	return m, over(t, m, c)
}

// setting is a Set that is Fine, and as it is made does no access.
func setting(t *testing.T, m *cells.Cells, x *chain.Chains, chunk, to int) *chain.Set {
	t.Helper()
	count, words := m.Count(), held(m)
	s, code := x.Set(chunk, to)
	if s == nil || code != api.Fine {
		t.Fatalf("Set(%d, %d) = %v, %d, want a machine and Fine", chunk, to, s, code)
	}
	wantUntouched(t, m, count, words)
	wantGoingOn(t, s)
	return s
}

// walking is a Walk that is Fine, and as it is made does no access.
func walking(t *testing.T, m *cells.Cells, x *chain.Chains, first int) *chain.Walk {
	t.Helper()
	count, words := m.Count(), held(m)
	w, code := x.Walk(first)
	if w == nil || code != api.Fine {
		t.Fatalf("Walk(%d) = %v, %d, want a machine and Fine", first, w, code)
	}
	wantUntouched(t, m, count, words)
	wantGoingOn(t, w)
	return w
}

// found is what a Walk tells; none of another machine.
func found(x machine) []int {
	if w, ok := x.(*chain.Walk); ok {
		return w.List()
	}
	return nil
}

// wantGoingOn: x is not done, and nothing has come of it yet.
func wantGoingOn(t *testing.T, x machine) {
	t.Helper()
	if x.Done() {
		t.Fatal("it is done too early")
	}
	if l := found(x); len(l) > 0 {
		t.Fatalf("List = %v ahead of the end", l)
	}
}

// wantDone: x is done, and it and the cells stay as they are however often it is to go on.
func wantDone(t *testing.T, m *cells.Cells, x machine) {
	t.Helper()
	if !x.Done() {
		t.Fatal("it is not done")
	}
	count, last, words, l := m.Count(), m.Last(), held(m), found(x)
	for range 3 {
		if x.Step() || !x.Done() {
			t.Fatalf("a Step behind the end: Done %t", x.Done())
		}
		if !slices.Equal(found(x), l) {
			t.Errorf("List = %v behind another Step, want %v", found(x), l)
		}
		if m.Last() != last {
			t.Errorf("the last access is %+v, want %+v", m.Last(), last)
		}
		wantUntouched(t, m, count, words)
	}
}

// wantSteps goes on with x, and holds each access against the one that is to come; is the last one the end, x is to be done behind it and not ahead.
func wantSteps(t *testing.T, m *cells.Cells, x machine, end bool, want ...cells.Access) {
	t.Helper()
	for i, a := range want {
		wantGoingOn(t, x)
		count := m.Count()
		if !x.Step() {
			t.Fatalf("step %d of %d: false", i, len(want))
		}
		if m.Count() != count+1 || m.Last() != a {
			t.Fatalf("step %d of %d: %d accesses, the last %+v, want %+v", i, len(want), m.Count()-count, m.Last(), a)
		}
	}
	if end {
		wantDone(t, m, x)
	} else {
		wantGoingOn(t, x)
	}
}

// through does all of x's accesses that are left: how many.
func through(t *testing.T, m *cells.Cells, x machine) int {
	t.Helper()
	n := 0
	for ; !x.Done() && n < 2*api.MaxChunks; n++ {
		wantGoingOn(t, x)
		count := m.Count()
		if !x.Step() || m.Count() != count+1 {
			t.Fatalf("step %d: %d accesses", n, m.Count()-count)
		}
	}
	wantDone(t, m, x)
	return n
}

// held is what all cells hold; of a great memory only those ahead of the chunks' words and the last one, for the sake of time.
func held(m *cells.Cells) []uint64 {
	var words []uint64
	for at := range min(m.Len(), 20000) {
		words = append(words, m.Peek(at))
	}
	return append(words, m.Peek(m.Len()-1))
}

// wantUntouched: there were so many accesses, and the cells hold these words.
func wantUntouched(t *testing.T, m *cells.Cells, count int, words []uint64) {
	t.Helper()
	if m.Count() != count {
		t.Errorf("%d accesses", m.Count()-count)
	}
	wantHeld(t, m, words)
}

func wantHeld(t *testing.T, m *cells.Cells, words []uint64) {
	t.Helper()
	for at, v := range held(m) {
		if v != words[at] {
			t.Errorf("the cell %d holds %#x, want %#x", at, v, words[at])
		}
	}
}

// wantList: List tells this, and to tell it is no access.
func wantList(t *testing.T, m *cells.Cells, x *chain.Chains, first int, want ...int) {
	t.Helper()
	count, words := m.Count(), held(m)
	if got := x.List(first); !slices.Equal(got, want) {
		t.Errorf("List(%d) = %v, want %v", first, got, want)
	}
	wantUntouched(t, m, count, words)
}

// wantFound: a Walk is done, and tells this.
func wantFound(t *testing.T, w *chain.Walk, want ...int) {
	t.Helper()
	if got := w.List(); !w.Done() || !slices.Equal(got, want) {
		t.Errorf("List of a Walk = %v, Done %t, want %v", got, w.Done(), want)
	}
}

func wantPool(t *testing.T, x *chain.Chains, want ...int) {
	t.Helper()
	if got := x.Pool().List(); !slices.Equal(got, want) {
		t.Errorf("the pool is %v, want %v", got, want)
	}
}

func load(at int, v uint64) cells.Access {
	return cells.Access{Kind: cells.Load, At: at, Old: v, New: v, Ok: true}
}

func store(at int, was, v uint64) cells.Access {
	return cells.Access{Kind: cells.Store, At: at, Old: was, New: v, Ok: true}
}

func turn(at int, was, v uint64) cells.Access {
	return cells.Access{Kind: cells.Cas, At: at, Old: was, New: v, Ok: true}
}

// upTo is 0, 1, .. n less 1.
func upTo(n int) []int {
	var l []int
	for i := range n {
		l = append(l, i)
	}
	return l
}

// notChunks are numbers that are no chunk of n.
func notChunks(n int) []int {
	return append([]int{-1, -2, -n, n, n + 1, 2 * n, 1<<32 + n - 1}, extremes...)
}

// P12.2, P12.3
func TestExample(t *testing.T) {
	m, x := filled(t, chunks(4))
	through(t, m, setting(t, m, x, 0, -1))
	through(t, m, setting(t, m, x, 2, 0))
	wantList(t, m, x, 2, 2, 0)
	w := walking(t, m, x, 2)
	if n := through(t, m, w); n != 2 {
		t.Errorf("%d accesses, want 2", n)
	}
	wantFound(t, w, 2, 0)
}

// P12.1: over cells as they are, just enough of them or more.
func TestNewWhereItMayBe(t *testing.T) {
	for _, c := range configs {
		for _, more := range []int{0, 1, 100} {
			m := made(t, size(c)+more, 1<<63)
			x := over(t, m, c)
			top := c.Chunks - 1
			wantList(t, m, x, top, top)
			wantPool(t, x)
			m.Lay(linkAt(c, top), link(0))
			m.Lay(linkAt(c, 0), 0)
			if top > 0 {
				wantList(t, m, x, top, top, 0)
			}
			m.Lay(poolHead, head(top, 9))
			wantPool(t, x, x.List(top)...)
		}
	}
}

// P12.1, P0.3: a configuration that may not be, however many cells there are.
func TestNewOfWhatMayNotBe(t *testing.T) {
	m := made(t, 10000, 3)
	words := held(m)
	wrong := func(turn func(c *api.Config, n int), l ...int) {
		t.Helper()
		for _, n := range append(l, extremes...) {
			for _, c := range configs[:5] {
				turn(&c, n)
				if x, code := chain.New(m, c); x != nil || code != api.ErrArg {
					t.Errorf("New(%+v) = %v, %d, want nil, ErrArg", c, x, code)
				}
			}
		}
	}
	wrong(func(c *api.Config, n int) { c.Workers = n }, -1, 0, api.MaxWorkers+1)
	wrong(func(c *api.Config, n int) { c.Chunks = n }, -1, 0, api.MaxChunks+1)
	wrong(func(c *api.Config, n int) { c.Words = n }, -8, -1, 0, 1, 7, 9, 12, 20, 1023, api.MaxWords+1, api.MaxWords+8)
	wrong(func(c *api.Config, n int) { c.Slots = n }, -1, 0, api.MaxSlots+1)
	wrong(func(c *api.Config, n int) { c.Cache = n }, -1, api.MaxCache+1)
	wrong(func(c *api.Config, n int) { c.Batch = n }, -1, 0, api.MaxBatch+1)
	wrong(func(c *api.Config, _ int) { *c = api.Config{} })
	wantUntouched(t, m, 0, words)
}

// P12.1, P0.3: fewer cells than the configuration has.
func TestNewOfTooFewCells(t *testing.T) {
	for _, c := range configs {
		for _, n := range []int{1, 2, linkAt(c, 0), linkAt(c, c.Chunks), size(c) / 2, size(c) - 2, size(c) - 1} {
			m := made(t, n, 3)
			words := held(m)
			if x, code := chain.New(m, c); x != nil || code != api.ErrArg {
				t.Errorf("New(%+v) of %d cells = %v, %d, want nil, ErrArg", c, n, x, code)
			}
			wantUntouched(t, m, 0, words)
		}
	}
}

// P12.1: all chunks in the pool, 0 on top; the other cells stay, and nothing is counted.
func TestFill(t *testing.T) {
	for _, c := range configs {
		m := made(t, size(c)+5, 1<<50)
		x := over(t, m, c)
		want := held(m)
		want[poolHead] = head(0, 0)
		for i := range c.Chunks {
			want[linkAt(c, i)] = link(i + 1)
		}
		want[linkAt(c, c.Chunks-1)] = link(-1)
		for range 2 {
			x.Fill()
			wantUntouched(t, m, 0, want)
			if m.Last() != (cells.Access{}) {
				t.Errorf("Fill is an access: %+v", m.Last())
			}
			wantPool(t, x, upTo(c.Chunks)...)
			wantList(t, m, x, 0, upTo(c.Chunks)...)
		}
	}
}

// P12.1: wherever the pool and the links were turned to, Fill is the same.
func TestFillBehindOthers(t *testing.T) {
	c := chunks(5)
	m, x := filled(t, c)
	want := held(m)
	through(t, m, x.Pool().Pop(3))
	through(t, m, setting(t, m, x, 0, 2))
	through(t, m, setting(t, m, x, 1, -1))
	x.Fill()
	wantHeld(t, m, want)
	wantPool(t, x, 0, 1, 2, 3, 4)
}

// P12.1: the pool is the stack of the head Pool and the chunks' links: its accesses are at these cells.
func TestPool(t *testing.T) {
	for _, c := range configs[1:] {
		m, x := filled(t, c)
		words := held(m)
		pop := x.Pool().Pop(2)
		behind := 2
		if c.Chunks == 2 {
			behind = -1
		}
		wantSteps(t, m, pop, true, load(poolHead, head(0, 0)), load(linkAt(c, 0), link(1)), load(linkAt(c, 1), link(behind)), turn(poolHead, head(0, 0), head(behind, 1)))
		wantPool(t, x, upTo(c.Chunks)[2:]...)
		push, code := x.Pool().Push(1, 0)
		if code != api.Fine {
			t.Fatalf("Push: %d", code)
		}
		wantSteps(t, m, push, true,
			store(linkAt(c, 1), link(behind), link(0)), load(poolHead, head(behind, 1)), store(linkAt(c, 0), link(1), link(behind)), turn(poolHead, head(behind, 1), head(1, 2)))
		wantPool(t, x, append([]int{1, 0}, upTo(c.Chunks)[2:]...)...)
		words[poolHead], words[linkAt(c, 1)], words[linkAt(c, 0)] = head(1, 2), link(0), link(behind)
		wantHeld(t, m, words)
	}
}

// P12.1: the pool has as many items as there are chunks.
func TestPoolOfEachChunk(t *testing.T) {
	for _, c := range configs {
		m, x := filled(t, c)
		m.Lay(poolHead, head(-1, 0))
		for _, i := range notChunks(c.Chunks) {
			if p, code := x.Pool().Push(i); p != nil || code != api.ErrArg {
				t.Errorf("Push(%d) onto the pool of %d = %v, %d, want nil, ErrArg", i, c.Chunks, p, code)
			}
		}
		p, code := x.Pool().Push(c.Chunks - 1)
		if code != api.Fine {
			t.Fatalf("Push(%d): %d", c.Chunks-1, code)
		}
		through(t, m, p)
		wantPool(t, x, c.Chunks-1)
	}
}

// P12.1, P0.5: a link serves the pool and the chains; and whoever else is over these cells sees it.
func TestLinksServeBoth(t *testing.T) {
	c := chunks(4)
	m, x := filled(t, c)
	y := over(t, m, c)
	through(t, m, setting(t, m, x, 1, 3))
	wantPool(t, x, 0, 1, 3)
	wantPool(t, y, 0, 1, 3)
	wantList(t, m, y, 0, 0, 1, 3)
	through(t, m, y.Pool().Pop(1))
	wantPool(t, x, 1, 3)
	wantList(t, m, x, 0, 0, 1, 3)
	through(t, m, setting(t, m, y, 0, -1))
	wantList(t, m, x, 0, 0)
	wantPool(t, x, 1, 3)
	y.Fill()
	wantPool(t, x, 0, 1, 2, 3)
}

// P12.1: in the order of the links, whatever it is.
func TestList(t *testing.T) {
	m, x := laid(t, link(2), link(-1), link(4), link(0), link(1))
	wantList(t, m, x, 3, 3, 0, 2, 4, 1)
	wantList(t, m, x, 0, 0, 2, 4, 1)
	wantList(t, m, x, 2, 2, 4, 1)
	wantList(t, m, x, 4, 4, 1)
	wantList(t, m, x, 1, 1)
}

// P12.1: of no chunk: none.
func TestListOfNoChunk(t *testing.T) {
	for _, c := range configs {
		m, x := filled(t, c)
		for _, i := range notChunks(c.Chunks) {
			wantList(t, m, x, i)
		}
		wantList(t, m, x, c.Chunks-1, c.Chunks-1)
	}
}

// P12.1: a link that is 0, or more than Chunks, tells none.
func TestListOverALinkThatTellsNone(t *testing.T) {
	for _, w := range append(beyond(3), 0) {
		m, x := laid(t, link(1), w, link(0))
		wantList(t, m, x, 2, 2, 0, 1)
		wantList(t, m, x, 1, 1)
	}
	m, x := laid(t, link(1), link(2), 0) // the greatest one that tells one
	wantList(t, m, x, 0, 0, 1, 2)
}

// P12.1: links that go round: Chunks at most.
func TestListOfARing(t *testing.T) {
	m, x := laid(t, link(1), link(0), link(0), link(3))
	wantList(t, m, x, 0, 0, 1, 0, 1)
	wantList(t, m, x, 1, 1, 0, 1, 0)
	wantList(t, m, x, 2, 2, 0, 1, 0)
	wantList(t, m, x, 3, 3, 3, 3, 3)
	m, x = laid(t, link(0))
	wantList(t, m, x, 0, 0)
	for _, c := range configs {
		m, x := filled(t, c)
		m.Lay(linkAt(c, c.Chunks-1), link(0))
		wantList(t, m, x, 0, upTo(c.Chunks)...)
		wantList(t, m, x, c.Chunks-1, append([]int{c.Chunks - 1}, upTo(c.Chunks-1)...)...)
	}
}

// P12.1, P0.4: each list is new memory, spare room too.
func TestListIsNewMemory(t *testing.T) {
	m, x := filled(t, chunks(5))
	a, b := x.List(0), x.List(0)
	for i := range a {
		a[i] = 9
	}
	_ = append(a, 7)
	_ = append(b, 6)
	if !slices.Equal(b, upTo(5)) {
		t.Errorf("another List turned to %v", b)
	}
	wantList(t, m, x, 0, upTo(5)...)
}
