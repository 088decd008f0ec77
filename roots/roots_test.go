package roots_test

import (
	"math"
	"slices"
	"testing"

	"rundale/api"
	"rundale/cells"
	"rundale/roots"
	"rundale/word"
)

// extremes are numbers far out of all bounds: the ends of all numbers, and those that look small when their upper bits are lost.
var extremes = []int{math.MinInt, math.MinInt + 1, -1 << 62, -1 << 32, 1 << 32, 1<<32 + 1, 1 << 62, math.MaxInt - 1, math.MaxInt}

// spareHead is the cell of the spare slots' head, by the document's words.
const spareHead = 1

// configs may all be; the last one is the greatest.
var configs = []api.Config{
	{Workers: 1, Chunks: 1, Words: 8, Slots: 1, Cache: 0, Batch: 1},
	{Workers: 2, Chunks: 4, Words: 8, Slots: 3, Cache: 1, Batch: 1},
	{Workers: 1, Chunks: 9, Words: 16, Slots: 5, Cache: 3, Batch: 8},
	{Workers: 64, Chunks: 2, Words: 24, Slots: 2, Cache: 64, Batch: 2},
	{Workers: 3, Chunks: 1, Words: 8, Slots: 40, Cache: 0, Batch: 1},
	{Workers: api.MaxWorkers, Chunks: api.MaxChunks, Words: api.MaxWords, Slots: api.MaxSlots, Cache: api.MaxCache, Batch: api.MaxBatch},
}

// machine is what a Create, a Look, an End and a Push have in common.
type machine interface {
	Step() bool
	Done() bool
}

// outcome is all that a machine tells of what came of it; chunk is -1 of one that is no End.
type outcome struct {
	code                         api.Code
	slot, gen, off, chunk, point int
}

// slots is a configuration with so many slots.
func slots(n int) api.Config {
	return api.Config{Workers: 2, Chunks: 4, Words: 8, Slots: n, Cache: 1, Batch: 1}
}

// rootAt, linkAt and size are where a slot's root and link stand, and how many cells there are, by the document's words.
func rootAt(c api.Config, slot int) int { return 3 + c.Workers + slot }

func linkAt(c api.Config, slot int) int { return 3 + c.Workers + c.Slots + slot }

func size(c api.Config) int { return 3 + c.Workers + 2*c.Slots + c.Chunks + c.Chunks*c.Words }

// head and root are words, by the document's words.
func head(index, tag int) uint64 { return uint64(tag)<<32 | uint64(index+1) }

func root(gen, mark, class, off int) uint64 {
	return uint64(gen)<<32 | uint64(mark)<<16 | uint64(class)<<12 | uint64(off)
}

// made is a memory of n cells, the cell at of which holds v and at.
func made(t *testing.T, n int, v uint64) *cells.Cells {
	t.Helper()
	m, code := cells.New(n)
	if code != api.Fine {
		t.Fatalf("cells.New(%d): %d", n, code)
	}
	for at := range n {
		m.Lay(at, v+uint64(at))
	}
	return m
}

// over is the roots of c over m's cells, which as they are made do no access.
func over(t *testing.T, m *cells.Cells, c api.Config) *roots.Roots {
	t.Helper()
	count, words := m.Count(), held(m)
	r, code := roots.New(m, c)
	if r == nil || code != api.Fine {
		t.Fatalf("New(%+v) = %v, %d, want roots and Fine", c, r, code)
	}
	wantUntouched(t, m, count, words)
	return r
}

// filled is roots that were filled, over cells that held something else ahead of it.
func filled(t *testing.T, c api.Config) (*cells.Cells, *roots.Roots) {
	t.Helper()
	m := made(t, size(c), 1<<40+777)
	r := over(t, m, c)
	r.Fill()
	return m, r
}

// creating is a Create, which as it is made does no access.
func creating(t *testing.T, m *cells.Cells, r *roots.Roots, class int) *roots.Create {
	t.Helper()
	count, words := m.Count(), held(m)
	x := r.Create(class)
	if x == nil {
		t.Fatal("Create is nil")
	}
	wantUntouched(t, m, count, words)
	wantGoingOn(t, x)
	return x
}

// looking is a Look that is Fine, and as it is made does no access.
func looking(t *testing.T, m *cells.Cells, r *roots.Roots, slot, gen int) *roots.Look {
	t.Helper()
	count, words := m.Count(), held(m)
	x, code := r.Look(slot, gen)
	if x == nil || code != api.Fine {
		t.Fatalf("Look(%d, %d) = %v, %d, want a machine and Fine", slot, gen, x, code)
	}
	wantUntouched(t, m, count, words)
	wantGoingOn(t, x)
	return x
}

// ending is an End that is Fine, and as it is made does no access.
func ending(t *testing.T, m *cells.Cells, r *roots.Roots, slot, gen int) *roots.End {
	t.Helper()
	count, words := m.Count(), held(m)
	x, code := r.End(slot, gen)
	if x == nil || code != api.Fine {
		t.Fatalf("End(%d, %d) = %v, %d, want a machine and Fine", slot, gen, x, code)
	}
	wantUntouched(t, m, count, words)
	wantGoingOn(t, x)
	return x
}

// backing is a Back that is Fine, and as it is made does no access.
func backing(t *testing.T, m *cells.Cells, r *roots.Roots, slot int) machine {
	t.Helper()
	count, words := m.Count(), held(m)
	x, code := r.Back(slot)
	if x == nil || code != api.Fine {
		t.Fatalf("Back(%d) = %v, %d, want a machine and Fine", slot, x, code)
	}
	wantUntouched(t, m, count, words)
	return x
}

// cameOf is what came of x.
func cameOf(x machine) outcome {
	o := outcome{chunk: -1}
	switch x := x.(type) {
	case *roots.Create:
		o.code, o.point = x.Code(), x.Point()
		o.slot, o.gen = x.Region()
	case *roots.Look:
		o.code, o.off = x.Code(), x.Off()
	case *roots.End:
		o.code, o.chunk, o.point = x.Code(), x.Chunk(), x.Point()
	}
	return o
}

func wantCame(t *testing.T, x machine, want outcome) {
	t.Helper()
	if got := cameOf(x); got != want {
		t.Errorf("what came of it is %+v, want %+v", got, want)
	}
}

// created, seen and ended are what comes of those that are Fine; none and stale of those that are not (a Look has no Point: 0).
func created(slot, gen, point int) outcome {
	return outcome{slot: slot, gen: gen, chunk: -1, point: point}
}

func none(point int) outcome { return outcome{code: api.NoSlot, chunk: -1, point: point} }

func seen(off int) outcome { return outcome{off: off, chunk: -1} }

func ended(chunk, point int) outcome { return outcome{chunk: chunk, point: point} }

func stale(point int) outcome { return outcome{code: api.Stale, chunk: -1, point: point} }

// wantGoingOn: x is not done, and nothing has come of it yet but a Create's Point.
func wantGoingOn(t *testing.T, x machine) {
	t.Helper()
	if x.Done() {
		t.Fatal("it is done too early")
	}
	want := outcome{chunk: -1}
	if _, ok := x.(*roots.Create); ok {
		want.point = cameOf(x).point
	}
	wantCame(t, x, want)
}

// wantDone: x is done, and it and the cells stay as they are however often it is to go on.
func wantDone(t *testing.T, m *cells.Cells, x machine) {
	t.Helper()
	if !x.Done() {
		t.Fatal("it is not done")
	}
	count, words, came := m.Count(), held(m), cameOf(x)
	for range 3 {
		if x.Step() || !x.Done() {
			t.Fatalf("a Step behind the end: Done %t", x.Done())
		}
		wantCame(t, x, came)
		wantUntouched(t, m, count, words)
	}
}

// wantSteps goes on with x, and holds each access against the one that is to come; is the last one the end, x is to be done behind it and not ahead.
func wantSteps(t *testing.T, m *cells.Cells, x machine, end bool, want ...cells.Access) {
	t.Helper()
	for i, a := range want {
		wantGoingOn(t, x)
		count := m.Count()
		if !x.Step() {
			t.Fatalf("step %d of %d: false", i, len(want))
		}
		if m.Count() != count+1 || m.Last() != a {
			t.Fatalf("step %d of %d: %d accesses, the last %+v, want %+v", i, len(want), m.Count()-count, m.Last(), a)
		}
	}
	if end {
		wantDone(t, m, x)
	} else {
		wantGoingOn(t, x)
	}
}

// through does all of x's accesses that are left: how many.
func through(t *testing.T, m *cells.Cells, x machine) int {
	t.Helper()
	n := 0
	for ; !x.Done() && n < 1000; n++ {
		wantGoingOn(t, x)
		count := m.Count()
		if !x.Step() || m.Count() != count+1 {
			t.Fatalf("step %d: %d accesses", n, m.Count()-count)
		}
	}
	wantDone(t, m, x)
	return n
}

// held is what all cells hold; of a great memory only those ahead of the chunks' words and the last one, for the sake of time.
func held(m *cells.Cells) []uint64 {
	var words []uint64
	for at := range min(m.Len(), 20000) {
		words = append(words, m.Peek(at))
	}
	return append(words, m.Peek(m.Len()-1))
}

// wantUntouched: there were so many accesses, and the cells hold these words.
func wantUntouched(t *testing.T, m *cells.Cells, count int, words []uint64) {
	t.Helper()
	if m.Count() != count {
		t.Errorf("%d accesses", m.Count()-count)
	}
	wantHeld(t, m, words)
}

func wantHeld(t *testing.T, m *cells.Cells, words []uint64) {
	t.Helper()
	for at, v := range held(m) {
		if v != words[at] {
			t.Errorf("the cell %d holds %#x, want %#x", at, v, words[at])
		}
	}
}

func wantSpare(t *testing.T, r *roots.Roots, want ...int) {
	t.Helper()
	if got := r.Spare(); !slices.Equal(got, want) {
		t.Errorf("Spare = %v, want %v", got, want)
	}
}

func wantRoot(t *testing.T, r *roots.Roots, slot int, want word.Root) {
	t.Helper()
	if got := r.Root(slot); got != want {
		t.Errorf("Root(%d) = %+v, want %+v", slot, got, want)
	}
}

func load(at int, v uint64) cells.Access {
	return cells.Access{Kind: cells.Load, At: at, Old: v, New: v, Ok: true}
}

func store(at int, was, v uint64) cells.Access {
	return cells.Access{Kind: cells.Store, At: at, Old: was, New: v, Ok: true}
}

func turn(at int, was, v uint64) cells.Access {
	return cells.Access{Kind: cells.Cas, At: at, Old: was, New: v, Ok: true}
}

// missed is an exchange that fails, for the cell holds v.
func missed(at int, v uint64) cells.Access {
	return cells.Access{Kind: cells.Cas, At: at, Old: v, New: v}
}

// upTo is 0, 1, .. n less 1.
func upTo(n int) []int {
	var l []int
	for i := range n {
		l = append(l, i)
	}
	return l
}

// P11.2
func TestExample(t *testing.T) {
	m, r := filled(t, slots(2))
	x := creating(t, m, r, 0)
	if n := through(t, m, x); n != 5 {
		t.Errorf("%d accesses, want 5", n)
	}
	wantCame(t, x, created(0, 1, 3))
}

// P11.1: over cells as they are, just enough of them or more.
func TestNewWhereItMayBe(t *testing.T) {
	for _, c := range configs {
		for _, more := range []int{0, 1, 100} {
			m := made(t, size(c)+more, 1<<63)
			r := over(t, m, c)
			m.Lay(rootAt(c, c.Slots-1), root(6, 5, 3, 4))
			wantRoot(t, r, c.Slots-1, word.Root{Gen: 6, Mark: 5, Class: 3, Off: 4})
			m.Lay(spareHead, head(c.Slots-1, 9))
			m.Lay(linkAt(c, c.Slots-1), 0)
			wantSpare(t, r, c.Slots-1)
		}
	}
}

// P11.1, P0.3: a configuration that may not be, however many cells there are.
func TestNewOfWhatMayNotBe(t *testing.T) {
	m := made(t, 10000, 3)
	words := held(m)
	wrong := func(turn func(c *api.Config, n int), l ...int) {
		t.Helper()
		for _, n := range append(l, extremes...) {
			for _, c := range configs[:5] {
				turn(&c, n)
				if r, code := roots.New(m, c); r != nil || code != api.ErrArg {
					t.Errorf("New(%+v) = %v, %d, want nil, ErrArg", c, r, code)
				}
			}
		}
	}
	wrong(func(c *api.Config, n int) { c.Workers = n }, -1, 0, api.MaxWorkers+1)
	wrong(func(c *api.Config, n int) { c.Chunks = n }, -1, 0, api.MaxChunks+1)
	wrong(func(c *api.Config, n int) { c.Words = n }, -8, -1, 0, 1, 7, 9, 12, 20, 1023, api.MaxWords+1, api.MaxWords+8)
	wrong(func(c *api.Config, n int) { c.Slots = n }, -1, 0, api.MaxSlots+1)
	wrong(func(c *api.Config, n int) { c.Cache = n }, -1, api.MaxCache+1)
	wrong(func(c *api.Config, n int) { c.Batch = n }, -1, 0, api.MaxBatch+1)
	wrong(func(c *api.Config, _ int) { *c = api.Config{} })
	wantUntouched(t, m, 0, words)
}

// P11.1, P0.3: fewer cells than the configuration has.
func TestNewOfTooFewCells(t *testing.T) {
	for _, c := range configs {
		for _, n := range []int{1, 2, rootAt(c, c.Slots), linkAt(c, c.Slots), size(c) / 2, size(c) - 2, size(c) - 1} {
			m := made(t, n, 3)
			words := held(m)
			if r, code := roots.New(m, c); r != nil || code != api.ErrArg {
				t.Errorf("New(%+v) of %d cells = %v, %d, want nil, ErrArg", c, n, r, code)
			}
			wantUntouched(t, m, 0, words)
		}
	}
}

// P11.1: all slots spare, 0 on top, all roots 0; the other cells stay, and nothing is counted.
func TestFill(t *testing.T) {
	for _, c := range configs {
		m := made(t, size(c)+5, 1<<50)
		r := over(t, m, c)
		want := held(m)
		want[spareHead] = 1
		for slot := range c.Slots {
			want[rootAt(c, slot)] = 0
			want[linkAt(c, slot)] = uint64(slot + 2)
		}
		want[linkAt(c, c.Slots-1)] = 0
		for range 2 {
			r.Fill()
			wantUntouched(t, m, 0, want)
			if m.Last() != (cells.Access{}) {
				t.Errorf("Fill is an access: %+v", m.Last())
			}
			wantSpare(t, r, upTo(c.Slots)...)
			for slot := range c.Slots {
				wantRoot(t, r, slot, word.Root{})
			}
		}
	}
}

// P11.1: a Fill behind a run begins anew.
func TestFillBehindARun(t *testing.T) {
	c := slots(3)
	m, r := filled(t, c)
	for range 2 {
		through(t, m, creating(t, m, r, 1))
	}
	through(t, m, ending(t, m, r, 0, 1))
	through(t, m, backing(t, m, r, 0))
	count, last := m.Count(), m.Last()
	r.Fill()
	if m.Count() != count || m.Last() != last {
		t.Errorf("Fill is an access: %+v", m.Last())
	}
	wantSpare(t, r, 0, 1, 2)
	for slot := range 3 {
		wantRoot(t, r, slot, word.Root{})
	}
	x := creating(t, m, r, 0)
	through(t, m, x)
	wantCame(t, x, created(0, 1, 3))
}

// P11.1: what GetRoot tells, of any word; of no slot zero, though the cells there look like roots.
func TestRoot(t *testing.T) {
	for _, c := range configs[:5] {
		m := made(t, size(c), root(9, 9, 3, 9))
		r := over(t, m, c)
		for w, want := range map[uint64]word.Root{
			0:                         {},
			1:                         {Off: 1},
			1 << 12:                   {Class: 1},
			1 << 16:                   {Mark: 1},
			1 << 32:                   {Gen: 1},
			root(7, 4, 2, 8):          {Gen: 7, Mark: 4, Class: 2, Off: 8},
			root(7, 4097, 3, 1024):    {Gen: 7, Mark: 4097, Class: 3, Off: 1024},
			root(api.MaxTag, 0, 0, 0): {Gen: api.MaxTag},
			math.MaxUint64:            {Gen: api.MaxTag, Mark: 65535, Class: 15, Off: 4095},
		} {
			for slot := range c.Slots {
				was := m.Peek(rootAt(c, slot))
				m.Lay(rootAt(c, slot), w)
				words := held(m)
				wantRoot(t, r, slot, want)
				wantUntouched(t, m, 0, words)
				m.Lay(rootAt(c, slot), was)
			}
		}
		for _, slot := range append([]int{-3, -2, -1, c.Slots, c.Slots + 1, -rootAt(c, 0), api.MaxSlots}, extremes...) {
			wantRoot(t, r, slot, word.Root{})
		}
	}
}

// P11.1: the spare slots' stack, as the cells have it; it is no access.
func TestSpare(t *testing.T) {
	c := slots(4)
	m := made(t, size(c), 0)
	r := over(t, m, c)
	for _, x := range []struct {
		head  uint64
		links [4]uint64
		want  []int
	}{
		{0, [4]uint64{}, nil},
		{head(-1, 7), [4]uint64{2, 3, 4, 0}, nil},
		{head(4, 7), [4]uint64{2, 3, 4, 0}, nil},
		{head(0, 0), [4]uint64{2, 3, 4, 0}, []int{0, 1, 2, 3}},
		{head(3, 5), [4]uint64{0, 1, 2, 3}, []int{3, 2, 1, 0}},
		{head(2, 5), [4]uint64{0, 1, 1, 1}, []int{2, 0}},
		{head(1, 5), [4]uint64{1, 5, 1, 1}, []int{1}},
		{head(1, 5), [4]uint64{1, 1, 1, 1}, []int{1, 0, 0, 0}},
	} {
		m.Lay(spareHead, x.head)
		for slot, v := range x.links {
			m.Lay(linkAt(c, slot), v)
		}
		words := held(m)
		wantSpare(t, r, x.want...)
		wantUntouched(t, m, 0, words)
	}
}

// P11.1, P0.4
func TestSpareIsNewMemory(t *testing.T) {
	_, r := filled(t, slots(5))
	a, b := r.Spare(), r.Spare()
	for i := range a {
		a[i] = 9
	}
	_ = append(a, 7)
	_ = append(b, 6)
	wantSpare(t, r, 0, 1, 2, 3, 4)
	if !slices.Equal(b, []int{0, 1, 2, 3, 4}) {
		t.Errorf("another Spare turned to %v", b)
	}
}

// P11.1, P0.5: two over the same cells are one.
func TestTwoOverTheSameCells(t *testing.T) {
	c := slots(3)
	m, a := filled(t, c)
	b := over(t, m, c)
	through(t, m, creating(t, m, a, 2))
	wantSpare(t, b, 1, 2)
	wantRoot(t, b, 0, word.Root{Gen: 1, Mark: word.Bare, Class: 2})
	e := ending(t, m, b, 0, 1)
	through(t, m, e)
	wantCame(t, e, ended(-1, 2))
	l := looking(t, m, a, 0, 1)
	through(t, m, l)
	wantCame(t, l, stale(0))
	through(t, m, backing(t, m, a, 0))
	wantSpare(t, b, 0, 1, 2)
}

// P11.3, P11.4, P0.3: no such slot: nothing is made, and no access is done.
func TestNoSuchSlot(t *testing.T) {
	for _, c := range configs[:5] {
		m := made(t, size(c), root(1, 2, 0, 0))
		r := over(t, m, c)
		words := held(m)
		for _, slot := range append([]int{-3, -2, -1, c.Slots, c.Slots + 1, api.MaxSlots, -rootAt(c, 0), c.Slots - 1 - 1<<32}, extremes...) {
			for _, gen := range []int{0, 1, -1, math.MaxInt} {
				if x, code := r.Look(slot, gen); x != nil || code != api.ErrArg {
					t.Errorf("of %d slots Look(%d, %d) = %v, %d, want nil, ErrArg", c.Slots, slot, gen, x, code)
				}
				if x, code := r.End(slot, gen); x != nil || code != api.ErrArg {
					t.Errorf("of %d slots End(%d, %d) = %v, %d, want nil, ErrArg", c.Slots, slot, gen, x, code)
				}
			}
			if x, code := r.Back(slot); x != nil || code != api.ErrArg {
				t.Errorf("of %d slots Back(%d) = %v, %d, want nil, ErrArg", c.Slots, slot, x, code)
			}
		}
		for _, slot := range []int{0, c.Slots - 1} {
			looking(t, m, r, slot, 1)
			ending(t, m, r, slot, 1)
			backing(t, m, r, slot)
		}
		wantUntouched(t, m, 0, words)
	}
}
