package supply_test

import (
	"math"
	"slices"
	"testing"

	"rundale/api"
	"rundale/cells"
	"rundale/chain"
	"rundale/supply"
)

// extremes are numbers far out of all bounds: the ends of all numbers, and those that look small when their upper bits are lost.
var extremes = []int{math.MinInt, math.MinInt + 1, -1 << 62, -1 << 32, 1 << 32, 1<<32 + 1, 1 << 62, math.MaxInt - 1, math.MaxInt}

// poolHead and epochAt are the cells of the pool's head and of the epoch, by the document's words.
const (
	poolHead = 0
	epochAt  = 2
)

// configs may all be; the last one is the greatest.
var configs = []api.Config{
	{Workers: 1, Chunks: 1, Words: 8, Slots: 1, Cache: 0, Batch: 1},
	{Workers: 2, Chunks: 4, Words: 8, Slots: 3, Cache: 1, Batch: 2},
	{Workers: 1, Chunks: 9, Words: 16, Slots: 5, Cache: 3, Batch: 8},
	{Workers: 64, Chunks: 2, Words: 24, Slots: 70, Cache: 64, Batch: 2},
	{Workers: 3, Chunks: 40, Words: 8, Slots: 1, Cache: 0, Batch: 1},
	{Workers: api.MaxWorkers, Chunks: api.MaxChunks, Words: api.MaxWords, Slots: api.MaxSlots, Cache: api.MaxCache, Batch: api.MaxBatch},
}

// machine is what a Take, a Give, a Push and a Pop have in common.
type machine interface {
	Step() bool
	Done() bool
}

// sized is a configuration with so many chunks, a cache and a batch of these sizes.
func sized(chunks, cache, batch int) api.Config {
	return api.Config{Workers: 2, Chunks: chunks, Words: 8, Slots: 3, Cache: cache, Batch: batch}
}

// linkAt and size are where a chunk's link stands, and how many cells there are, by the document's words.
func linkAt(c api.Config, chunk int) int { return 3 + c.Workers + 2*c.Slots + chunk }

func size(c api.Config) int { return 3 + c.Workers + 2*c.Slots + c.Chunks + c.Chunks*c.Words }

// head and link are words, by the document's words; -1: none.
func head(index, tag int) uint64 { return uint64(tag)<<32 | uint64(index+1) }

func link(to int) uint64 { return uint64(to + 1) }

// made is a memory of n cells, the cell at of which holds v and at.
func made(t *testing.T, n int, v uint64) *cells.Cells {
	t.Helper()
	m, code := cells.New(n)
	if code != api.Fine {
		t.Fatalf("cells.New(%d): %d", n, code)
	}
	for at := range n {
		m.Lay(at, v+uint64(at))
	}
	return m
}

// over is a supply of c over m's cells, which as it is made does no access, and has nothing.
func over(t *testing.T, m *cells.Cells, c api.Config) *supply.Supply {
	t.Helper()
	count, words := m.Count(), held(m)
	s, code := supply.New(m, c)
	if s == nil || code != api.Fine {
		t.Fatalf("New(%+v) = %v, %d, want a supply and Fine", c, s, code)
	}
	wantUntouched(t, m, count, words)
	wantStash(t, s)
	wantLimbo(t, s)
	return s
}

// pooled is a supply over a memory whose pool is just these chunks, from the top; the cells beside that and the epoch hold something else. The epoch is 0.
func pooled(t *testing.T, c api.Config, pool ...int) (*cells.Cells, *supply.Supply) {
	t.Helper()
	m := made(t, size(c), 1<<40+777)
	m.Lay(epochAt, 0)
	layPool(m, c, pool...)
	return m, over(t, m, c)
}

// layPool has the pool be just these chunks, from the top.
func layPool(m *cells.Cells, c api.Config, pool ...int) {
	top := -1
	for i := len(pool) - 1; i >= 0; i-- {
		m.Lay(linkAt(c, pool[i]), link(top))
		top = pool[i]
	}
	m.Lay(poolHead, head(top, 0))
}

// chainsOf is what another one sees of the pool.
func chainsOf(t *testing.T, m *cells.Cells, c api.Config) *chain.Chains {
	t.Helper()
	x, code := chain.New(m, c)
	if code != api.Fine {
		t.Fatalf("chain.New(%+v): %d", c, code)
	}
	return x
}

// taking is a Take; as it is made it does no access.
func taking(t *testing.T, m *cells.Cells, s *supply.Supply) *supply.Take {
	t.Helper()
	count, words := m.Count(), held(m)
	k := s.Take()
	if k == nil {
		t.Fatal("Take: no machine")
	}
	wantUntouched(t, m, count, words)
	wantSeen(t, k, -1)
	return k
}

// giving is what Spill or All answers; as it is made it does no access.
func giving(t *testing.T, m *cells.Cells, give func() *supply.Give) *supply.Give {
	t.Helper()
	count, words := m.Count(), held(m)
	g := give()
	if g == nil {
		t.Fatal("no machine")
	}
	wantUntouched(t, m, count, words)
	return g
}

// told is all that a machine tells beside Done.
type told struct {
	chunk int
	is    bool
	seen  int
	hand  []int
}

func tells(x machine) told {
	switch x := x.(type) {
	case *supply.Take:
		chunk, is := x.Chunk()
		return told{chunk: chunk, is: is, seen: x.Seen()}
	case *supply.Give:
		return told{hand: x.Hand()}
	}
	return told{}
}

func (a told) like(b told) bool {
	return a.chunk == b.chunk && a.is == b.is && a.seen == b.seen && slices.Equal(a.hand, b.hand)
}

// wantGoingOn: x is not done, and no chunk has come of it yet; it has some in hand, if it gives.
func wantGoingOn(t *testing.T, x machine) {
	t.Helper()
	if x.Done() {
		t.Fatal("it is done too early")
	}
	now := tells(x)
	if now.chunk != 0 || now.is {
		t.Fatalf("Chunk = %d, %t ahead of the end", now.chunk, now.is)
	}
	if _, is := x.(*supply.Give); is && len(now.hand) == 0 {
		t.Fatal("Hand is empty ahead of the end")
	}
}

// wantDone: x is done, and it and the cells stay as they are however often it is to go on.
func wantDone(t *testing.T, m *cells.Cells, x machine) {
	t.Helper()
	if !x.Done() {
		t.Fatal("it is not done")
	}
	count, last, words, was := m.Count(), m.Last(), held(m), tells(x)
	if len(was.hand) > 0 {
		t.Fatalf("Hand = %v behind the end", was.hand)
	}
	for range 3 {
		if x.Step() || !x.Done() {
			t.Fatalf("a Step behind the end: Done %t", x.Done())
		}
		if now := tells(x); !now.like(was) {
			t.Errorf("behind another Step it tells %+v, want %+v", now, was)
		}
		if m.Last() != last {
			t.Errorf("the last access is %+v, want %+v", m.Last(), last)
		}
		wantUntouched(t, m, count, words)
	}
}

// wantSteps goes on with x, and holds each access against the one that is to come; is the last one the end, x is to be done behind it and not ahead.
func wantSteps(t *testing.T, m *cells.Cells, x machine, end bool, want ...cells.Access) {
	t.Helper()
	for i, a := range want {
		wantGoingOn(t, x)
		count := m.Count()
		if !x.Step() {
			t.Fatalf("step %d of %d: false", i, len(want))
		}
		if m.Count() != count+1 || m.Last() != a {
			t.Fatalf("step %d of %d: %d accesses, the last %+v, want %+v", i, len(want), m.Count()-count, m.Last(), a)
		}
	}
	if end {
		wantDone(t, m, x)
	} else {
		wantGoingOn(t, x)
	}
}

// through does all of x's accesses that are left: how many.
func through(t *testing.T, m *cells.Cells, x machine) int {
	t.Helper()
	n := 0
	for ; !x.Done() && n < 2*api.MaxChunks; n++ {
		count := m.Count()
		if !x.Step() || m.Count() != count+1 {
			t.Fatalf("step %d: %d accesses", n, m.Count()-count)
		}
	}
	wantDone(t, m, x)
	return n
}

// held is what all cells hold; of a great memory only those ahead of the chunks' words and the last one, for the sake of time.
func held(m *cells.Cells) []uint64 {
	var words []uint64
	for at := range min(m.Len(), 14000) {
		words = append(words, m.Peek(at))
	}
	return append(words, m.Peek(m.Len()-1))
}

// wantUntouched: there were so many accesses, and the cells hold these words.
func wantUntouched(t *testing.T, m *cells.Cells, count int, words []uint64) {
	t.Helper()
	if m.Count() != count {
		t.Errorf("%d accesses", m.Count()-count)
	}
	for at, v := range held(m) {
		if v != words[at] {
			t.Errorf("the cell %d holds %#x, want %#x", at, v, words[at])
		}
	}
}

func wantStash(t *testing.T, s *supply.Supply, want ...int) {
	t.Helper()
	if got := s.Stash(); !slices.Equal(got, want) {
		t.Errorf("Stash = %v, want %v", got, want)
	}
}

// bucket is chunks that wait under a tag.
type bucket struct {
	tag    int
	chunks []int
}

// wantLimbo: just these wait, each bucket where its tag tells.
func wantLimbo(t *testing.T, s *supply.Supply, want ...bucket) {
	t.Helper()
	var all [3]bucket
	for _, b := range want {
		all[b.tag%3] = b
	}
	for k, b := range all {
		if tag, l := s.Bucket(k); tag != b.tag || !slices.Equal(l, b.chunks) {
			t.Errorf("Bucket(%d) = %d, %v, want %d, %v", k, tag, l, b.tag, b.chunks)
		}
	}
}

func wantPool(t *testing.T, m *cells.Cells, c api.Config, want ...int) {
	t.Helper()
	if got := chainsOf(t, m, c).Pool().List(); !slices.Equal(got, want) {
		t.Errorf("the pool is %v, want %v", got, want)
	}
}

// retired has chunks wait, which pushes none out.
func retired(t *testing.T, s *supply.Supply, tag int, chunks ...int) {
	t.Helper()
	was := s.Stash()
	if code := s.Retire(tag, chunks...); code != api.Fine {
		t.Fatalf("Retire(%d, %v) = %d, want Fine", tag, chunks, code)
	}
	wantStash(t, s, was...)
}

func wantReady(t *testing.T, s *supply.Supply, now, want int) {
	t.Helper()
	if got := s.Ready(now); got != want {
		t.Errorf("Ready(%d) = %d, want %d", now, got, want)
	}
}

// wantChunk: a Take is done, and has this chunk.
func wantChunk(t *testing.T, k *supply.Take, want int) {
	t.Helper()
	if got, is := k.Chunk(); !k.Done() || got != want || !is {
		t.Errorf("Chunk = %d, %t, Done %t, want %d, true", got, is, k.Done(), want)
	}
}

// wantNone: a Take is done, and has none.
func wantNone(t *testing.T, k *supply.Take) {
	t.Helper()
	if got, is := k.Chunk(); !k.Done() || got != 0 || is {
		t.Errorf("Chunk = %d, %t, Done %t, want 0, false", got, is, k.Done())
	}
}

func wantSeen(t *testing.T, k *supply.Take, want int) {
	t.Helper()
	if got := k.Seen(); got != want {
		t.Errorf("Seen = %d, want %d", got, want)
	}
}

func wantHand(t *testing.T, g *supply.Give, want ...int) {
	t.Helper()
	if got := g.Hand(); !slices.Equal(got, want) {
		t.Errorf("Hand = %v, want %v", got, want)
	}
}

func load(at int, v uint64) cells.Access {
	return cells.Access{Kind: cells.Load, At: at, Old: v, New: v, Ok: true}
}

func store(at int, was, v uint64) cells.Access {
	return cells.Access{Kind: cells.Store, At: at, Old: was, New: v, Ok: true}
}

func turn(at int, was, v uint64) cells.Access {
	return cells.Access{Kind: cells.Cas, At: at, Old: was, New: v, Ok: true}
}

// missed is a Cas that doesn't exchange, since the cell holds v.
func missed(at int, v uint64) cells.Access {
	return cells.Access{Kind: cells.Cas, At: at, Old: v, New: v}
}

// pops is the accesses of a Pop of most chunks from a pool of these, the head's Tag of which is tag: each one's link is loaded, then comes the exchange.
func pops(c api.Config, most, tag int, pool ...int) []cells.Access {
	if len(pool) == 0 {
		return []cells.Access{load(poolHead, head(-1, tag))}
	}
	all := []cells.Access{load(poolHead, head(pool[0], tag))}
	below := pool[0]
	for i := range min(most, len(pool)) {
		at := linkAt(c, below)
		below = -1
		if i+1 < len(pool) {
			below = pool[i+1]
		}
		all = append(all, load(at, link(below)))
	}
	return append(all, turn(poolHead, head(pool[0], tag), head(below, tag+1)))
}

// pushes is the accesses of a Push of l onto a pool the topmost of which is top (-1: none), by what the links hold now.
func pushes(m *cells.Cells, c api.Config, top, tag int, l ...int) []cells.Access {
	if len(l) == 0 {
		return nil
	}
	was := func(chunk int) uint64 { return m.Peek(linkAt(c, chunk)) }
	var all []cells.Access
	last := len(l) - 1
	for i := range last {
		all = append(all, store(linkAt(c, l[i]), was(l[i]), link(l[i+1])))
	}
	return append(all,
		load(poolHead, head(top, tag)),
		store(linkAt(c, l[last]), was(l[last]), link(top)),
		turn(poolHead, head(top, tag), head(l[0], tag+1)))
}

// span is from, from and 1, .. to less 1.
func span(from, to int) []int {
	var l []int
	for i := from; i < to; i++ {
		l = append(l, i)
	}
	return l
}

// P13.1, P13.2
func TestExample(t *testing.T) {
	m, s := pooled(t, sized(4, 1, 2))
	k := taking(t, m, s)
	if n := through(t, m, k); n != 1 {
		t.Errorf("%d accesses, want 1", n)
	}
	wantNone(t, k)
}

// P13.1: over cells as they are, just enough of them or more: neither a stash nor a limbo has anything, and what the pool has can be taken.
func TestNewWhereItMayBe(t *testing.T) {
	for _, c := range configs {
		for _, more := range []int{0, 1, 100} {
			m := made(t, size(c)+more, 1<<63)
			s := over(t, m, c)
			wantReady(t, s, math.MaxInt, 0)
			last := c.Chunks - 1
			m.Lay(poolHead, head(last, 9))
			m.Lay(linkAt(c, last), link(-1))
			k := taking(t, m, s)
			wantSteps(t, m, k, true, pops(c, c.Batch, 9, last)...)
			wantChunk(t, k, last)
			wantStash(t, s)
		}
	}
}

// P13.1, P0.3: a configuration that may not be, however many cells there are.
func TestNewOfWhatMayNotBe(t *testing.T) {
	m := made(t, 10000, 3)
	words := held(m)
	wrong := func(turn func(c *api.Config, n int), l ...int) {
		t.Helper()
		for _, n := range append(l, extremes...) {
			for _, c := range configs[:5] {
				turn(&c, n)
				if s, code := supply.New(m, c); s != nil || code != api.ErrArg {
					t.Errorf("New(%+v) = %v, %d, want nil, ErrArg", c, s, code)
				}
			}
		}
	}
	wrong(func(c *api.Config, n int) { c.Workers = n }, -1, 0, api.MaxWorkers+1)
	wrong(func(c *api.Config, n int) { c.Chunks = n }, -1, 0, api.MaxChunks+1)
	wrong(func(c *api.Config, n int) { c.Words = n }, -8, -1, 0, 1, 7, 9, 12, 20, 1023, api.MaxWords+1, api.MaxWords+8)
	wrong(func(c *api.Config, n int) { c.Slots = n }, -1, 0, api.MaxSlots+1)
	wrong(func(c *api.Config, n int) { c.Cache = n }, -1, api.MaxCache+1)
	wrong(func(c *api.Config, n int) { c.Batch = n }, -1, 0, api.MaxBatch+1)
	wrong(func(c *api.Config, _ int) { *c = api.Config{} })
	wantUntouched(t, m, 0, words)
}

// P13.1, P0.3: fewer cells than the configuration has.
func TestNewOfTooFewCells(t *testing.T) {
	for _, c := range configs {
		for _, n := range []int{1, 2, linkAt(c, 0), linkAt(c, c.Chunks), size(c) / 2, size(c) - 2, size(c) - 1} {
			m := made(t, n, 3)
			words := held(m)
			if s, code := supply.New(m, c); s != nil || code != api.ErrArg {
				t.Errorf("New(%+v) of %d cells = %v, %d, want nil, ErrArg", c, n, s, code)
			}
			wantUntouched(t, m, 0, words)
		}
	}
}

// P13.1: behind those that are there; the last one is taken first. However many there are: none goes by itself.
func TestPut(t *testing.T) {
	c := sized(200, 1, 2)
	m, s := pooled(t, c)
	words := held(m)
	s.Put()
	wantStash(t, s)
	s.Put(5)
	wantStash(t, s, 5)
	s.Put()
	s.Put(3, 9, 0)
	wantStash(t, s, 5, 3, 9, 0)
	s.Put(span(100, 200)...)
	s.Put(7)
	s.Put(6)
	wantStash(t, s, append(append([]int{5, 3, 9, 0}, span(100, 200)...), 7, 6)...)
	wantLimbo(t, s)
	wantUntouched(t, m, 0, words)
	wantChunk(t, taking(t, m, s), 6)
	wantChunk(t, taking(t, m, s), 7)
	for i := range 100 {
		wantChunk(t, taking(t, m, s), 199-i)
	}
	wantStash(t, s, 5, 3, 9, 0)
}

// P13.1: each bucket by its tag; chunks of one tag stand one behind the other, and stay there.
func TestRetire(t *testing.T) {
	m, s := pooled(t, sized(9, 1, 2))
	words := held(m)
	retired(t, s, 0, 4)
	wantLimbo(t, s, bucket{0, []int{4}})
	retired(t, s, 1, 2, 0)
	retired(t, s, 1, 8)
	wantLimbo(t, s, bucket{0, []int{4}}, bucket{1, []int{2, 0, 8}})
	s.Put(7)
	retired(t, s, 2, 1)
	wantLimbo(t, s, bucket{0, []int{4}}, bucket{1, []int{2, 0, 8}}, bucket{2, []int{1}})
	wantStash(t, s, 7)
	wantUntouched(t, m, 0, words)
}

// P13.1: no such buckets.
func TestBucketThatIsNone(t *testing.T) {
	_, s := pooled(t, sized(9, 1, 2))
	retired(t, s, 3, 1)
	retired(t, s, 4, 2)
	retired(t, s, 5, 6)
	for _, k := range append([]int{-1, -3, 3, 4, 5, 6}, extremes...) {
		if tag, l := s.Bucket(k); tag != 0 || len(l) > 0 {
			t.Errorf("Bucket(%d) = %d, %v, want 0, none", k, tag, l)
		}
	}
}

// P13.1: what stood in the bucket under a lesser tag is kept then, in its order, behind those that were; the new ones wait.
func TestRetirePushesOut(t *testing.T) {
	for _, beyond := range []int{3, 6, 300} {
		m, s := pooled(t, sized(9, 1, 2))
		words := held(m)
		s.Put(8)
		retired(t, s, 1, 3, 0, 2)
		retired(t, s, 2, 1)
		if code := s.Retire(1+beyond, 5, 4); code != api.Fine {
			t.Fatalf("Retire = %d", code)
		}
		wantStash(t, s, 8, 3, 0, 2)
		wantLimbo(t, s, bucket{2, []int{1}}, bucket{1 + beyond, []int{5, 4}})
		if code := s.Retire(2+beyond, 7); code != api.Fine {
			t.Fatalf("Retire = %d", code)
		}
		wantStash(t, s, 8, 3, 0, 2, 1)
		wantLimbo(t, s, bucket{1 + beyond, []int{5, 4}}, bucket{2 + beyond, []int{7}})
		wantUntouched(t, m, 0, words)
	}
}

// P13.1, P0.2: nothing is retired then, and nothing pushed out.
func TestRetireOfWhatMayNotBe(t *testing.T) {
	m, s := pooled(t, sized(9, 1, 2))
	words := held(m)
	s.Put(8)
	wrong := func(tag int, chunks ...int) {
		t.Helper()
		if code := s.Retire(tag, chunks...); code != api.ErrArg {
			t.Errorf("Retire(%d, %v) = %d, want ErrArg", tag, chunks, code)
		}
	}
	for _, tag := range []int{math.MinInt, -1 << 32, -3, -1, api.MaxEpoch + 1, api.MaxEpoch + 2, math.MaxInt} {
		wrong(tag, 1)
		wrong(tag, 1, 2)
		wrong(tag)
	}
	wrong(0)
	wantLimbo(t, s)
	retired(t, s, 4, 3)
	for _, tag := range []int{3, 2, 1, 0, -1, -2} {
		wrong(tag, 1)
	}
	wrong(4)
	wrong(7)
	wrong(api.MaxEpoch)
	wantStash(t, s, 8)
	wantLimbo(t, s, bucket{4, []int{3}})
	wantReady(t, s, 6, 1)
	wrong(3, 1)
	wantStash(t, s, 8, 3)
	wantLimbo(t, s)
	wantUntouched(t, m, 0, words)
	retired(t, s, 4, 1)
	wantLimbo(t, s, bucket{4, []int{1}})
}

// P13.1: the greatest tag there is, and those next to it.
func TestRetireOfTheGreatestTags(t *testing.T) {
	_, s := pooled(t, sized(9, 1, 2))
	retired(t, s, api.MaxEpoch-1, 1)
	retired(t, s, api.MaxEpoch, 0, 2)
	wantLimbo(t, s, bucket{api.MaxEpoch - 1, []int{1}}, bucket{api.MaxEpoch, []int{0, 2}})
	wantReady(t, s, api.MaxEpoch, 0)
	wantReady(t, s, api.MaxEpoch+1, 1)
	wantReady(t, s, api.MaxEpoch+2, 2)
	wantStash(t, s, 1, 0, 2)
}

// P13.1: how many there are, the least tag's first, behind those that are kept; the others wait on.
func TestReady(t *testing.T) {
	m, s := pooled(t, sized(9, 1, 2))
	words := held(m)
	for _, now := range append([]int{-1, 0, 1, 2}, extremes...) {
		wantReady(t, s, now, 0)
	}
	s.Put(8)
	retired(t, s, 5, 3, 0)
	retired(t, s, 6, 2)
	retired(t, s, 7, 4, 6, 1)
	for _, now := range []int{math.MinInt, math.MinInt + 1, -1, 0, 3, 5, 6} {
		wantReady(t, s, now, 0)
	}
	wantStash(t, s, 8)
	wantReady(t, s, 7, 2)
	wantStash(t, s, 8, 3, 0)
	wantLimbo(t, s, bucket{6, []int{2}}, bucket{7, []int{4, 6, 1}})
	wantReady(t, s, 7, 0)
	wantReady(t, s, 9, 4)
	wantStash(t, s, 8, 3, 0, 2, 4, 6, 1)
	wantLimbo(t, s)
	wantReady(t, s, math.MaxInt, 0)
	wantUntouched(t, m, 0, words)
}

// P13.1, P0.5: it goes by its argument, not by the epoch's cell.
func TestReadyGoesByWhatItIsTold(t *testing.T) {
	m, s := pooled(t, sized(9, 1, 2))
	retired(t, s, 4, 3)
	m.Lay(epochAt, 1000)
	wantReady(t, s, 5, 0)
	m.Lay(epochAt, 0)
	wantReady(t, s, 6, 1)
	wantStash(t, s, 3)
}

// P13.1, P0.5: two supplies of the same cells: each has its own stash and limbo; the pool is one.
func TestEachSupplyHasItsOwn(t *testing.T) {
	c := sized(5, 1, 1)
	m, s := pooled(t, c, 0)
	r := over(t, m, c)
	s.Put(1)
	retired(t, s, 3, 2)
	wantStash(t, r)
	wantLimbo(t, r)
	retired(t, r, 1, 3)
	wantReady(t, r, 9, 1)
	wantLimbo(t, s, bucket{3, []int{2}})
	wantStash(t, s, 1)
	wantStash(t, r, 3)
	through(t, m, giving(t, m, r.All))
	wantPool(t, m, c, 3, 0)
	wantChunk(t, taking(t, m, s), 1)
	wantReady(t, s, 5, 1)
	wantChunk(t, taking(t, m, s), 2)
	k := taking(t, m, s)
	through(t, m, k)
	wantChunk(t, k, 3)
	k = taking(t, m, r)
	through(t, m, k)
	wantChunk(t, k, 0)
	wantPool(t, m, c)
}
