package grant_test

import (
	"math"
	"slices"
	"testing"

	"rundale/api"
	"rundale/cells"
	"rundale/chain"
	"rundale/grant"
	"rundale/supply"
)

// extremes are numbers far out of all bounds: the ends of all numbers, and those that look small when their upper bits are lost.
var extremes = []int{math.MinInt, math.MinInt + 1, -1 << 62, -1 << 32, 1 << 32, 1<<32 + 1, 1 << 62, math.MaxInt - 1, math.MaxInt}

// poolHead and epochAt are the cells of the pool's head and of the epoch, by the document's words.
const (
	poolHead = 0
	epochAt  = 2
)

// configs may all be; the last one is the greatest.
var configs = []api.Config{
	{Workers: 1, Chunks: 1, Words: 8, Slots: 1, Cache: 0, Batch: 1},
	{Workers: 2, Chunks: 4, Words: 8, Slots: 3, Cache: 1, Batch: 2},
	{Workers: 1, Chunks: 9, Words: 16, Slots: 5, Cache: 3, Batch: 8},
	{Workers: 64, Chunks: 2, Words: 24, Slots: 2, Cache: 64, Batch: 2},
	{Workers: 3, Chunks: 40, Words: 8, Slots: 70, Cache: 0, Batch: 1},
	{Workers: api.MaxWorkers, Chunks: api.MaxChunks, Words: api.MaxWords, Slots: api.MaxSlots, Cache: api.MaxCache, Batch: api.MaxBatch},
}

// machine is what all machines have in common.
type machine interface {
	Step() bool
	Done() bool
}

// world is a memory with the grants over it, and a worker's supply.
type world struct {
	t   *testing.T
	c   api.Config
	m   *cells.Cells
	g   *grant.Grants
	s   *supply.Supply
	did map[*grant.Alloc]int // how many accesses of it were seen
}

// sized is a configuration with so many words a chunk, a cache and a batch of these sizes.
func sized(words, cache, batch int) api.Config {
	return api.Config{Workers: 2, Chunks: 9, Words: words, Slots: 3, Cache: cache, Batch: batch}
}

// rootAt, linkAt, wordAt and size are where a slot's root, a chunk's link and words stand, and how many cells there are, by the document's words.
func rootAt(c api.Config, slot int) int { return 3 + c.Workers + slot }

func linkAt(c api.Config, chunk int) int { return 3 + c.Workers + 2*c.Slots + chunk }

func wordAt(c api.Config, chunk, at int) int {
	return 3 + c.Workers + 2*c.Slots + c.Chunks + chunk*c.Words + at
}

func size(c api.Config) int { return wordAt(c, c.Chunks, 0) }

// head, link and root are words, by the document's words; -1: none.
func head(index, tag int) uint64 { return uint64(tag)<<32 | uint64(index+1) }

func link(to int) uint64 { return uint64(to + 1) }

// root is that of a live region, the newest chunk of which is newest.
func root(gen, newest, class, off int) uint64 { return marked(gen, newest+2, class, off) }

func marked(gen, mark, class, off int) uint64 {
	return uint64(gen)<<32 | uint64(mark)<<16 | uint64(class)<<12 | uint64(off)
}

// made is a memory of n cells, the cell at of which holds v and at.
func made(t *testing.T, n int, v uint64) *cells.Cells {
	t.Helper()
	m, code := cells.New(n)
	if code != api.Fine {
		t.Fatalf("cells.New(%d): %d", n, code)
	}
	for at := range n {
		m.Lay(at, v+uint64(at))
	}
	return m
}

// over is the grants of c over m's cells, which as they are made do no access.
func over(t *testing.T, m *cells.Cells, c api.Config) *grant.Grants {
	t.Helper()
	count, words := m.Count(), held(m)
	g, code := grant.New(m, c)
	if g == nil || code != api.Fine {
		t.Fatalf("New(%+v) = %v, %d, want grants and Fine", c, g, code)
	}
	wantUntouched(t, m, count, words)
	return g
}

// laid is a world in which the slot 1 has that root, and the pool is just these chunks, from the top. The other cells hold something else, the epoch 0.
func laid(t *testing.T, c api.Config, w uint64, pool ...int) *world {
	t.Helper()
	m := made(t, size(c), 1<<40+777)
	m.Lay(epochAt, 0)
	m.Lay(rootAt(c, 1), w)
	layPool(m, c, pool...)
	return worldOver(t, m, c)
}

func worldOver(t *testing.T, m *cells.Cells, c api.Config) *world {
	t.Helper()
	y := &world{t: t, c: c, m: m, g: over(t, m, c), did: map[*grant.Alloc]int{}}
	y.s = y.another()
	return y
}

// another is another worker's supply.
func (y *world) another() *supply.Supply {
	y.t.Helper()
	s, code := supply.New(y.m, y.c)
	if code != api.Fine {
		y.t.Fatalf("supply.New(%+v): %d", y.c, code)
	}
	return s
}

// layPool has the pool be just these chunks, from the top, and its head's Tag 0.
func layPool(m *cells.Cells, c api.Config, pool ...int) {
	top := -1
	for i := len(pool) - 1; i >= 0; i-- {
		m.Lay(linkAt(c, pool[i]), link(top))
		top = pool[i]
	}
	m.Lay(poolHead, head(top, 0))
}

// alloc is an Alloc of the slot 1 by the world's supply.
func (y *world) alloc(gen, n int) *grant.Alloc {
	y.t.Helper()
	return y.allocBy(y.s, 1, gen, n)
}

// allocBy is an Alloc; as it is made it does no access, and takes nothing from the supply.
func (y *world) allocBy(s *supply.Supply, slot, gen, n int) *grant.Alloc {
	y.t.Helper()
	count, words, kept := y.m.Count(), held(y.m), s.Stash()
	a, code := y.g.Alloc(s, slot, gen, n)
	if a == nil || code != api.Fine {
		y.t.Fatalf("Alloc(%d, %d, %d) = %v, %d, want a machine and Fine", slot, gen, n, a, code)
	}
	wantUntouched(y.t, y.m, count, words)
	wantStash(y.t, s, kept...)
	y.wantGoingOn(a)
	return a
}

// outcome is all that an Alloc tells beside Done.
type outcome struct {
	code   api.Code
	object api.Handle
	point  int
	hand   []int
}

func tells(a *grant.Alloc) outcome {
	return outcome{a.Code(), a.Object(), a.Point(), a.Hand()}
}

func (o outcome) like(p outcome) bool {
	return o.code == p.code && o.object == p.object && o.point == p.point && slices.Equal(o.hand, p.hand)
}

// wantTold: it tells that.
func (y *world) wantTold(a *grant.Alloc, want outcome) {
	y.t.Helper()
	if got := tells(a); !got.like(want) {
		y.t.Fatalf("behind %d accesses it tells %+v, want %+v", y.did[a], got, want)
	}
}

// wantGoingOn: it is not done, and nothing has come of it yet.
func (y *world) wantGoingOn(a *grant.Alloc) {
	y.t.Helper()
	if a.Done() {
		y.t.Fatalf("it is done behind %d accesses", y.did[a])
	}
	y.wantTold(a, outcome{hand: a.Hand()})
}

// wantDone: it is done, and it, the cells and the stash stay as they are however often it is to go on.
func (y *world) wantDone(a *grant.Alloc) {
	y.t.Helper()
	if !a.Done() {
		y.t.Fatalf("it is not done behind %d accesses", y.did[a])
	}
	count, words, kept, came := y.m.Count(), held(y.m), y.s.Stash(), tells(a)
	if len(came.hand) > 0 {
		y.t.Fatalf("Hand = %v behind the end", came.hand)
	}
	for range 3 {
		if a.Step() || !a.Done() {
			y.t.Fatalf("a Step behind the end: Done %t", a.Done())
		}
		y.wantTold(a, came)
		wantUntouched(y.t, y.m, count, words)
		wantStash(y.t, y.s, kept...)
	}
}

// step has it do that access, and nothing beside.
func (y *world) step(a *grant.Alloc, want cells.Access) {
	y.t.Helper()
	count, words := y.m.Count(), held(y.m)
	if !a.Step() {
		y.t.Fatalf("behind %d accesses a Step says false", y.did[a])
	}
	y.did[a]++
	if y.m.Count() != count+1 || y.m.Last() != want {
		y.t.Fatalf("its access %d: %d of them, the last %+v, want %+v", y.did[a], y.m.Count()-count, y.m.Last(), want)
	}
	if want.At < len(words) {
		words[want.At] = want.New
	}
	wantUntouched(y.t, y.m, count+1, words)
}

// goes has it do these accesses: behind none of them has it taken effect.
func (y *world) goes(a *grant.Alloc, want ...cells.Access) {
	y.t.Helper()
	for _, w := range want {
		y.wantGoingOn(a)
		y.step(a, w)
	}
	y.wantGoingOn(a)
}

// closes has it do the access at which it takes effect, and push these chunks, onto the pool as it is; it is done behind the last one.
func (y *world) closes(a *grant.Alloc, at cells.Access, code api.Code, object api.Handle, spilt ...int) {
	y.t.Helper()
	y.wantGoingOn(a)
	all := pushes(y.m, y.c, spilt...)
	y.step(a, at)
	came := outcome{point: y.did[a], hand: spilt}
	for _, want := range all {
		if a.Done() {
			y.t.Fatalf("it is done behind %d accesses", y.did[a])
		}
		y.wantTold(a, came)
		y.step(a, want)
	}
	came.code, came.object, came.hand = code, object, nil
	y.wantTold(a, came)
	y.wantDone(a)
}

// through does all accesses of a machine that are left: how many.
func through(t *testing.T, m *cells.Cells, x machine) int {
	t.Helper()
	n := 0
	for ; !x.Done() && n < 20000; n++ {
		count := m.Count()
		if !x.Step() || m.Count() != count+1 {
			t.Fatalf("step %d: %d accesses", n, m.Count()-count)
		}
	}
	if !x.Done() || x.Step() {
		t.Fatalf("behind %d accesses: Done %t", n, x.Done())
	}
	return n
}

// held is what all cells hold; of a great memory only the first ones, for the sake of time.
func held(m *cells.Cells) []uint64 {
	words := make([]uint64, min(m.Len(), 1000))
	for at := range words {
		words[at] = m.Peek(at)
	}
	return words
}

// wantUntouched: there were so many accesses, and the cells hold these words.
func wantUntouched(t *testing.T, m *cells.Cells, count int, words []uint64) {
	t.Helper()
	if m.Count() != count {
		t.Errorf("%d accesses", m.Count()-count)
	}
	for at, v := range held(m) {
		if v != words[at] {
			t.Errorf("the cell %d holds %#x, want %#x", at, v, words[at])
		}
	}
}

func wantStash(t *testing.T, s *supply.Supply, want ...int) {
	t.Helper()
	if got := s.Stash(); !slices.Equal(got, want) {
		t.Errorf("Stash = %v, want %v", got, want)
	}
}

// chains is what another one sees of the pool and of the chains.
func (y *world) chains() *chain.Chains {
	y.t.Helper()
	x, code := chain.New(y.m, y.c)
	if code != api.Fine {
		y.t.Fatalf("chain.New(%+v): %d", y.c, code)
	}
	return x
}

func (y *world) wantPool(want ...int) {
	y.t.Helper()
	if got := y.chains().Pool().List(); !slices.Equal(got, want) {
		y.t.Errorf("the pool is %v, want %v", got, want)
	}
}

// wantRoot: the slot 1 has that one.
func (y *world) wantRoot(want uint64) {
	y.t.Helper()
	if got := y.m.Peek(rootAt(y.c, 1)); got != want {
		y.t.Errorf("the root is %#x, want %#x", got, want)
	}
}

// loadRoot, turnRoot and missRoot are accesses at the slot 1's root.
func (y *world) loadRoot(w uint64) cells.Access { return load(rootAt(y.c, 1), w) }

func (y *world) turnRoot(was, w uint64) cells.Access { return turn(rootAt(y.c, 1), was, w) }

func (y *world) missRoot(w uint64) cells.Access { return missed(rootAt(y.c, 1), w) }

// links is the Store of a chunk's link.
func (y *world) links(chunk, to int) cells.Access {
	return store(linkAt(y.c, chunk), y.m.Peek(linkAt(y.c, chunk)), link(to))
}

// clears is the Stores of 0 of a chunk's words.
func (y *world) clears(chunk int) []cells.Access {
	var all []cells.Access
	for at := range y.c.Words {
		all = append(all, store(wordAt(y.c, chunk, at), y.m.Peek(wordAt(y.c, chunk, at)), 0))
	}
	return all
}

func load(at int, v uint64) cells.Access {
	return cells.Access{Kind: cells.Load, At: at, Old: v, New: v, Ok: true}
}

func store(at int, was, v uint64) cells.Access {
	return cells.Access{Kind: cells.Store, At: at, Old: was, New: v, Ok: true}
}

func turn(at int, was, v uint64) cells.Access {
	return cells.Access{Kind: cells.Cas, At: at, Old: was, New: v, Ok: true}
}

// missed is a Cas that doesn't exchange, since the cell holds v.
func missed(at int, v uint64) cells.Access {
	return cells.Access{Kind: cells.Cas, At: at, Old: v, New: v}
}

// pops is the accesses of a Pop of a Batch from a pool of these, the head's Tag of which is tag: each one's link is loaded, then comes the exchange.
func pops(c api.Config, tag int, pool ...int) []cells.Access {
	if len(pool) == 0 {
		return []cells.Access{load(poolHead, head(-1, tag))}
	}
	all := []cells.Access{load(poolHead, head(pool[0], tag))}
	below := pool[0]
	for i := range min(c.Batch, len(pool)) {
		at := linkAt(c, below)
		below = -1
		if i+1 < len(pool) {
			below = pool[i+1]
		}
		all = append(all, load(at, link(below)))
	}
	return append(all, turn(poolHead, head(pool[0], tag), head(below, tag+1)))
}

// pushes is the accesses of a Push of l onto the pool as it is, by what the links hold now.
func pushes(m *cells.Cells, c api.Config, l ...int) []cells.Access {
	if len(l) == 0 {
		return nil
	}
	now := m.Peek(poolHead)
	top, tag := int(now&math.MaxUint32)-1, int(now>>32)
	was := func(chunk int) uint64 { return m.Peek(linkAt(c, chunk)) }
	var all []cells.Access
	last := len(l) - 1
	for i := range last {
		all = append(all, store(linkAt(c, l[i]), was(l[i]), link(l[i+1])))
	}
	return append(all,
		load(poolHead, now),
		store(linkAt(c, l[last]), was(l[last]), link(top)),
		turn(poolHead, now, head(l[0], tag+1)))
}

// object is what is given away of the slot 1's region.
func object(gen, chunk, off, n int) api.Handle {
	return api.Handle{Slot: 1, Gen: gen, Chunk: chunk, Off: off, Len: n}
}

// span is from, from and 1, .. to less 1.
func span(from, to int) []int {
	var l []int
	for i := from; i < to; i++ {
		l = append(l, i)
	}
	return l
}

// P14.1
func TestExample(t *testing.T) {
	y := laid(t, sized(8, 0, 1), root(1, -1, 0, 0), span(0, 9)...)
	a := y.alloc(1, 3)
	if n := through(t, y.m, a); n != 14 {
		t.Errorf("%d accesses, want 14", n)
	}
	y.wantTold(a, outcome{object: object(1, 0, 0, 3), point: 14})
}

// P14.1: over cells as they are, just enough of them or more; the last slot's region gets the last chunk.
func TestNewWhereItMayBe(t *testing.T) {
	for _, c := range configs {
		for _, more := range []int{0, 1, 100} {
			m := made(t, size(c)+more, 1<<63)
			last := c.Chunks - 1
			layPool(m, c, last)
			at := rootAt(c, c.Slots-1)
			m.Lay(at, root(5, -1, 2, 0))
			y := worldOver(t, m, c)
			a := y.allocBy(y.s, c.Slots-1, 5, 1)
			if n := through(t, m, a); n != 1+3+c.Words+2 {
				t.Errorf("%+v: %d accesses, want %d", c, n, 1+3+c.Words+2)
			}
			y.wantTold(a, outcome{object: api.Handle{Slot: c.Slots - 1, Gen: 5, Chunk: last, Len: 1}, point: 6 + c.Words})
			if got := m.Peek(at); got != root(5, last, 2, 4) {
				t.Errorf("%+v: the root is %#x", c, got)
			}
		}
	}
}

// P14.1, P0.3: a configuration that may not be, however many cells there are.
func TestNewOfWhatMayNotBe(t *testing.T) {
	m := made(t, 10000, 3)
	words := held(m)
	wrong := func(turn func(c *api.Config, n int), l ...int) {
		t.Helper()
		for _, n := range append(l, extremes...) {
			for _, c := range configs[:5] {
				turn(&c, n)
				if g, code := grant.New(m, c); g != nil || code != api.ErrArg {
					t.Errorf("New(%+v) = %v, %d, want nil, ErrArg", c, g, code)
				}
			}
		}
	}
	wrong(func(c *api.Config, n int) { c.Workers = n }, -1, 0, api.MaxWorkers+1)
	wrong(func(c *api.Config, n int) { c.Chunks = n }, -1, 0, api.MaxChunks+1)
	wrong(func(c *api.Config, n int) { c.Words = n }, -8, -1, 0, 1, 7, 9, 12, 20, 1023, api.MaxWords+1, api.MaxWords+8)
	wrong(func(c *api.Config, n int) { c.Slots = n }, -1, 0, api.MaxSlots+1)
	wrong(func(c *api.Config, n int) { c.Cache = n }, -1, api.MaxCache+1)
	wrong(func(c *api.Config, n int) { c.Batch = n }, -1, 0, api.MaxBatch+1)
	wrong(func(c *api.Config, _ int) { *c = api.Config{} })
	wantUntouched(t, m, 0, words)
}

// P14.1, P0.3: fewer cells than the configuration has.
func TestNewOfTooFewCells(t *testing.T) {
	for _, c := range configs {
		for _, n := range []int{1, 2, rootAt(c, 0), linkAt(c, 0), wordAt(c, 0, 0), size(c) / 2, size(c) - 2, size(c) - 1} {
			m := made(t, n, 3)
			words := held(m)
			if g, code := grant.New(m, c); g != nil || code != api.ErrArg {
				t.Errorf("New(%+v) of %d cells = %v, %d, want nil, ErrArg", c, n, g, code)
			}
			wantUntouched(t, m, 0, words)
		}
	}
}

// refused: that is the code, without a machine; nothing is turned, neither cells nor what the supply keeps.
func (y *world) refused(slot, gen, n int, want api.Code) {
	y.t.Helper()
	count, words, kept := y.m.Count(), held(y.m), y.s.Stash()
	if a, code := y.g.Alloc(y.s, slot, gen, n); a != nil || code != want {
		y.t.Errorf("Alloc(%d, %d, %d) = %v, %d, want nil, %d", slot, gen, n, a, code, want)
	}
	wantUntouched(y.t, y.m, count, words)
	wantStash(y.t, y.s, kept...)
}

// P14.1, P0.2, P0.3: no such slot, whatever else is amiss: that is told first.
func TestAllocOfNoSlot(t *testing.T) {
	for _, c := range configs[:5] {
		m := made(t, size(c), 1<<40+777)
		y := worldOver(t, m, c)
		y.s.Put(span(0, c.Chunks)...)
		for _, slot := range append([]int{-2, -1, c.Slots, c.Slots + 1, 1 << 12}, extremes...) {
			for _, n := range append([]int{-1, 0, 1, c.Words, c.Words + 1}, extremes...) {
				y.refused(slot, 1, n, api.ErrArg)
			}
		}
	}
}

// P14.1, P0.2, P0.3: no object is of that many words, be there such a region or not.
func TestAllocOfWhatIsTooLarge(t *testing.T) {
	for _, words := range []int{8, 16, 1024} {
		c := sized(words, 0, 1)
		y := laid(t, c, root(4, -1, 0, 0), 0, 1)
		y.s.Put(2, 3)
		m := made(t, size(c), 1<<40+777)
		z := worldOver(t, m, c)
		for _, n := range append([]int{-words, -2, -1, 0, words + 1, words + 2, 2 * words, 1 << 11, 1 << 16}, extremes...) {
			for gen := range 6 {
				y.refused(1, gen, n, api.TooLarge)
				z.refused(gen%3, gen, n, api.TooLarge)
			}
		}
		for _, n := range []int{1, 2, words - 1, words} {
			y.alloc(4, n)
			z.alloc(4, n)
		}
	}
}
