package grant_test

import (
	"iter"
	"slices"
	"testing"

	"rundale/api"
	"rundale/cells"
	"rundale/chain"
	"rundale/grant"
	"rundale/roots"
	"rundale/supply"
)

// region is one by its slot and generation.
type region struct{ slot, gen int }

// deed is what came of a machine: what it tells, and what it does not: what it will tell from the Point on, and what is its worker's when it is done.
type deed struct {
	outcome
	will api.Handle
	made region
	took []int
}

// telling is what a machine does: it calls access ahead of each one, and tells whether that is a Store of a word.
type telling func(access func(word bool))

// side is a memory with a supply for each worker; all that is done in the one of the program is done in the one of the tellings.
type side struct {
	c        api.Config
	m        *cells.Cells
	r        *roots.Roots
	x        *chain.Chains
	supplies []*supply.Supply
}

func newSide(t *testing.T, c api.Config, workers int) *side {
	t.Helper()
	p := &side{c: c, m: made(t, size(c), 1<<40+777)}
	p.r, _ = roots.New(p.m, c)
	p.x, _ = chain.New(p.m, c)
	p.r.Fill()
	p.x.Fill()
	p.m.Lay(epochAt, 3)
	for range workers {
		s, code := supply.New(p.m, c)
		if code != api.Fine {
			t.Fatal("supply.New:", code)
		}
		p.supplies = append(p.supplies, s)
	}
	return p
}

// attempt is an Alloc as the chapter tells it, over words and numbers in their plainest form.
type attempt struct {
	*side
	s      *supply.Supply
	of     region
	n      int
	came   *deed
	access func(word bool) // counts the accesses, too
	steps  int
	asked  bool
	chunk  int // -1: none is in hand
}

// alloc tells an Alloc.
func (p *side) alloc(s *supply.Supply, of region, n int, came *deed) telling {
	return func(access func(bool)) {
		a := &attempt{side: p, s: s, of: of, n: n, came: came, chunk: -1}
		a.access = func(word bool) {
			access(word)
			a.steps++
		}
		for !a.isOver() {
		}
	}
}

// isOver tells all from a Load of the root on, until it closes or is to look again.
func (a *attempt) isOver() bool {
	a.access(false)
	w, _ := a.m.Load(rootAt(a.c, a.of.slot))
	mark, class, off := int(w>>16&0xffff), int(w>>12&15), int(w&0xfff)
	need := rounded(class, a.n)
	if mark == 0 || int(w>>32) != a.of.gen {
		a.closes(api.Stale, api.Handle{})
		return true
	}
	if mark >= 2 && !isAlone(a.c, need) && off+need <= a.c.Words {
		return a.turns(w, w+uint64(need), mark-2, off)
	}
	if a.chunk < 0 && a.asked {
		a.closes(api.OutOfMemory, api.Handle{})
		return true
	}
	if a.chunk < 0 && !a.getsChunk() {
		return false
	}
	a.access(false)
	a.m.Store(linkAt(a.c, a.chunk), uint64(mark-1))
	if isAlone(a.c, need) {
		need = a.c.Words
	}
	return a.turns(w, root(a.of.gen, a.chunk, class, need), a.chunk, 0)
}

// getsChunk tells the Take, and that the words of the chunk are written.
func (a *attempt) getsChunk() bool {
	a.asked = true
	take := a.s.Take()
	goes(take, a.access)
	chunk, is := take.Chunk()
	if !is {
		return false
	}
	a.chunk, a.came.hand = chunk, []int{chunk}
	for at := range a.c.Words {
		a.access(true)
		a.m.Store(wordAt(a.c, chunk, at), 0)
	}
	return true
}

// turns tells the exchange of the root, which gives words of a chunk away from off on, and what follows.
func (a *attempt) turns(was, w uint64, chunk, off int) bool {
	a.access(false)
	ok, _ := a.m.Cas(rootAt(a.c, a.of.slot), was, w)
	if !ok {
		return false
	}
	if chunk == a.chunk {
		a.chunk = -1
	}
	a.closes(api.Fine, api.Handle{Slot: a.of.slot, Gen: a.of.gen, Chunk: chunk, Off: off, Len: a.n})
	return true
}

func (a *attempt) closes(code api.Code, h api.Handle) {
	a.came.point, a.came.will = a.steps, h
	if a.chunk >= 0 {
		a.s.Put(a.chunk)
	}
	a.came.pushes(a.s.Spill(), a.access)
	a.came.code, a.came.object = code, h
}

// goes has a machine do all of its accesses.
func goes(x machine, access func(bool)) {
	for !x.Done() {
		access(false)
		x.Step()
	}
}

// pushes has a Give do all of its accesses: its chunks are in hand until it is done.
func (d *deed) pushes(x *supply.Give, access func(bool)) {
	d.hand = x.Hand()
	goes(x, access)
	d.hand = nil
}

// create tells a Create.
func (p *side) create(class int, came *deed) telling {
	return func(access func(bool)) {
		x := p.r.Create(class)
		goes(x, access)
		came.code = x.Code()
		came.made.slot, came.made.gen = x.Region()
	}
}

// free tells the end of a region: its chunks are in hand, until they wait for an epoch; then the slot is spare, and what is too many is pushed.
func (p *side) free(s *supply.Supply, of region, came *deed) telling {
	return func(access func(bool)) {
		x, _ := p.r.End(of.slot, of.gen)
		goes(x, access)
		if came.code = x.Code(); came.code != api.Fine {
			return
		}
		if x.Chunk() >= 0 {
			came.hand = p.x.List(x.Chunk())
			access(false)
			now, _ := p.m.Load(epochAt)
			walk, _ := p.x.Walk(x.Chunk())
			goes(walk, access)
			came.hand = nil
			s.Retire(int(now), walk.List()...)
		}
		back, _ := p.r.Back(of.slot)
		goes(back, access)
		came.pushes(s.Spill(), access)
	}
}

// drain tells a Pop of n chunks, which are its worker's then.
func (p *side) drain(n int, came *deed) telling {
	return func(access func(bool)) {
		x := p.x.Pool().Pop(n)
		goes(x, access)
		came.took = x.Got()
	}
}

// all tells an All.
func (p *side) all(s *supply.Supply, came *deed) telling {
	return func(access func(bool)) { came.pushes(s.All(), access) }
}

// advance tells that the epoch goes on by one.
func (p *side) advance() telling {
	return func(access func(bool)) {
		access(false)
		p.m.Add(epochAt, 1)
	}
}

// told is a telling as a machine.
type told struct {
	next func() (bool, bool)
	word bool // whether the next access is a Store of a word
	more bool
}

func newTold(l telling) *told {
	x := &told{}
	x.next, _ = iter.Pull(func(yield func(bool) bool) { l(func(word bool) { yield(word) }) })
	x.word, x.more = x.next()
	return x
}

func (x *told) Done() bool { return !x.more }

func (x *told) Step() bool {
	was := x.more
	x.word, x.more = x.next()
	return was
}

// kind is what a worker does next.
type kind int

const (
	alloc   kind = iota
	create       // a region of the class n
	free         // a region
	drain        // n chunks
	put          // the first one of its chunks
	all          // that its supply keeps
	advance      // the epoch
)

// task is a worker's next deed: of the region that was made so many ago, counted round; with n words (alloc), of class n (create), n chunks (drain).
type task struct {
	kind  kind
	known int
	n     int
}

// hand is a worker: its tasks that are left, its chunks, and the machine it is at, beside its telling.
type hand struct {
	tasks []task
	has   []int
	kind  kind
	of    region
	x     machine
	came  *deed // by x, unless that is an Alloc
	twin  *told
	want  *deed
}

// given is an object that was given away, and what its words hold since.
type given struct {
	h     api.Handle
	holds uint64
}

// table is some workers over one memory.
type table struct {
	t      *testing.T
	c      api.Config
	g      *grant.Grants
	p, q   *side // of the program, and of the tellings
	hands  []*hand
	made   []region
	live   map[region][]given
	many   uint64 // objects that were given away
	picks  []int
	atOnce bool // whether all words of a chunk are written at one pick: nobody else can be at them
	had    map[string]int
}

// seated is workers with these tasks at full memory, with a region of each of these classes.
func seated(t *testing.T, c api.Config, classes []int, tasks [][]task) *table {
	t.Helper()
	x := &table{t: t, c: c, p: newSide(t, c, len(tasks)), q: newSide(t, c, len(tasks)), live: map[region][]given{}, had: map[string]int{}}
	x.g = over(t, x.p.m, c)
	for _, class := range classes {
		for _, p := range []*side{x.p, x.q} {
			k := p.r.Create(class)
			through(t, p.m, k)
		}
		x.makes(region{len(x.made), 1})
	}
	for _, l := range tasks {
		x.hands = append(x.hands, &hand{tasks: l})
	}
	for w := range x.hands {
		x.begin(w)
	}
	return x
}

func (x *table) makes(r region) {
	x.made = append(x.made, r)
	x.live[r] = nil
}

// begin has a worker do its tasks up to the first one that needs an access; those of a region are left out, while there was none.
func (x *table) begin(w int) {
	x.t.Helper()
	h := x.hands[w]
	for h.x == nil && len(h.tasks) > 0 {
		k := h.tasks[0]
		h.tasks = h.tasks[1:]
		if k.kind == alloc || k.kind == free {
			if len(x.made) == 0 {
				continue
			}
			h.of = x.made[len(x.made)-1-k.known%len(x.made)]
		}
		x.start(w, k)
		if h.x != nil {
			x.wantLike(h)
			x.end(h)
		}
	}
}

func (x *table) start(w int, k task) {
	x.t.Helper()
	h := x.hands[w]
	h.kind, h.came, h.want = k.kind, &deed{}, &deed{}
	s, r := x.p.supplies[w], x.q.supplies[w]
	both := func(p, q telling) { h.x, h.twin = newTold(p), newTold(q) }
	switch k.kind {
	case alloc:
		a, code := x.g.Alloc(s, h.of.slot, h.of.gen, k.n)
		if code != api.Fine {
			x.t.Fatalf("%v: Alloc of %+v, %d: %d", x.picks, h.of, k.n, code)
		}
		h.x, h.twin = a, newTold(x.q.alloc(r, h.of, k.n, h.want))
	case create:
		both(x.p.create(k.n, h.came), x.q.create(k.n, h.want))
	case free:
		both(x.p.free(s, h.of, h.came), x.q.free(r, h.of, h.want))
	case drain:
		both(x.p.drain(k.n, h.came), x.q.drain(k.n, h.want))
	case all:
		both(x.p.all(s, h.came), x.q.all(r, h.want))
	case advance:
		both(x.p.advance(), x.q.advance())
	case put:
		if len(h.has) > 0 {
			s.Put(h.has[0])
			r.Put(h.has[0])
			h.has = h.has[1:]
		}
	}
}

// shows is what a worker's machine tells.
func (h *hand) shows() outcome {
	if a, is := h.x.(*grant.Alloc); is {
		return tells(a)
	}
	return h.came.outcome
}

// wantLike: a machine tells what its telling does.
func (x *table) wantLike(h *hand) {
	x.t.Helper()
	if now := h.shows(); h.x.Done() != h.twin.Done() || !now.like(h.want.outcome) {
		x.t.Fatalf("%v: Done %t, %+v, want %t, %+v", x.picks, h.x.Done(), now, h.twin.Done(), h.want.outcome)
	}
}

// end lets a machine that is done go.
func (x *table) end(h *hand) {
	if !h.twin.Done() {
		return
	}
	if h.kind == create && h.want.code == api.Fine {
		x.makes(h.want.made)
	}
	if h.kind == alloc {
		x.had[[]string{api.Fine: "Fine", api.Stale: "Stale", api.OutOfMemory: "OutOfMemory"}[h.want.code]]++
	}
	h.has = append(h.has, h.want.took...)
	h.x, h.twin = nil, nil
}

// busy is the workers that can go on.
func (x *table) busy() []int {
	var l []int
	for w, h := range x.hands {
		if h.x != nil {
			l = append(l, w)
		}
	}
	return l
}

// pick has a worker do one access, and begin its next task with it if that was the end of one.
func (x *table) pick(w int) {
	x.t.Helper()
	x.picks = append(x.picks, w)
	h := x.hands[w]
	x.access(h)
	for x.atOnce && h.x != nil && h.twin.word {
		x.access(h)
	}
	x.begin(w)
	x.wantWhole()
}

// access has a worker do one access of its machine.
func (x *table) access(h *hand) {
	x.t.Helper()
	count, point, hands := x.p.m.Count(), h.want.point, len(h.want.hand)
	if !h.x.Step() || !h.twin.Step() {
		x.t.Fatalf("%v: a machine at work doesn't go on", x.picks)
	}
	last := x.p.m.Last()
	if x.p.m.Count() != count+1 || last != x.q.m.Last() {
		x.t.Fatalf("%v: %d accesses, the last %+v, want %+v", x.picks, x.p.m.Count()-count, last, x.q.m.Last())
	}
	x.wantLike(h)
	if h.kind == alloc && !last.Ok && last.At != poolHead {
		x.had[[]string{"missed", "missed with a chunk"}[hands]]++
	}
	if h.kind == alloc && h.want.point != point {
		x.takesEffect(h, hands)
	}
	if h.kind == free && last.Kind == cells.Cas && last.Ok && last.At == rootAt(x.c, h.of.slot) {
		delete(x.live, h.of)
	}
	x.end(h)
}

// takesEffect: what an Alloc gives away is in one chunk of a live region, of nobody else, and 0; from now on its words hold something else.
func (x *table) takesEffect(h *hand, hands int) {
	x.t.Helper()
	if len(h.want.hand) > 0 {
		x.had["spilt"]++
	}
	o := h.want.will
	if o == (api.Handle{}) {
		return
	}
	l, is := x.live[h.of]
	if !is || o.Slot != h.of.slot || o.Gen != h.of.gen || o.Off < 0 || o.Len < 1 || o.Off+o.Len > x.c.Words {
		x.t.Fatalf("%v: given away is %+v, of the live region %+v: %t", x.picks, o, h.of, is)
	}
	if hands > 0 && o.Off > 0 {
		x.had["room again"]++
	}
	x.many++
	for i := range o.Len {
		at := wordAt(x.c, o.Chunk, o.Off+i)
		if v := x.p.m.Peek(at); v != 0 {
			x.t.Fatalf("%v: the word %d of %+v is %d", x.picks, i, o, v)
		}
		x.p.m.Lay(at, x.many)
		x.q.m.Lay(at, x.many)
	}
	x.live[h.of] = append(l, given{o, x.many})
}

// wantWhole: the words that are given away hold what they did; each chunk is in the pool, in one stash, in one bucket, in one live region or in one's hands, once.
func (x *table) wantWhole() {
	x.t.Helper()
	at := x.p.x.Pool().List()
	for r, l := range x.live {
		chunks := x.p.x.List(int(x.p.m.Peek(rootAt(x.c, r.slot))>>16&0xffff) - 2)
		at = append(at, chunks...)
		for _, o := range l {
			x.wantHeld(o, chunks)
		}
	}
	for w, h := range x.hands {
		s := x.p.supplies[w]
		at = slices.Concat(at, s.Stash(), h.has)
		for k := range 3 {
			_, l := s.Bucket(k)
			at = append(at, l...)
		}
		if h.x != nil {
			at = append(at, h.shows().hand...)
		}
	}
	slices.Sort(at)
	if !slices.Equal(at, span(0, x.c.Chunks)) {
		x.t.Fatalf("%v: the chunks are %v", x.picks, at)
	}
}

// wantHeld: an object's chunk is its region's, and its words hold what they did.
func (x *table) wantHeld(o given, chunks []int) {
	x.t.Helper()
	if !slices.Contains(chunks, o.h.Chunk) {
		x.t.Fatalf("%v: the chunk of %+v is not among %v", x.picks, o.h, chunks)
	}
	for i := range o.h.Len {
		if v := x.p.m.Peek(wordAt(x.c, o.h.Chunk, o.h.Off+i)); v != o.holds {
			x.t.Fatalf("%v: the word %d of %+v holds %d, want %d", x.picks, i, o.h, v, o.holds)
		}
	}
}

// eachOrder goes through every order in which the workers can go on: how many there are, and what came of it; with ahead the first one's first Alloc is done ahead of all. Each run begins with the picks of the one ahead of it, up to the last place where another worker could go on.
func eachOrder(t *testing.T, c api.Config, ahead bool, tasks [][]task) (orders int, had map[string]int) {
	t.Helper()
	had = map[string]int{}
	var picks []int
	for more := true; more; orders++ {
		x := seated(t, c, []int{0}, tasks)
		x.atOnce = true
		for ahead && x.had["Fine"] == 0 {
			x.pick(0)
		}
		var could [][]int
		for busy := x.busy(); len(busy) > 0; busy = x.busy() {
			at := len(could)
			could = append(could, busy)
			if at == len(picks) {
				picks = append(picks, busy[0])
			}
			x.pick(picks[at])
		}
		for what, many := range x.had {
			had[what] += many
		}
		picks, more = nextOrder(picks, could)
	}
	return orders, had
}

// nextOrder is how the next order begins, and whether there is one: the last pick that has another one behind it, among those that could go on there, gives way to it.
func nextOrder(picks []int, could [][]int) ([]int, bool) {
	for at := len(picks) - 1; at >= 0; at-- {
		if i := slices.Index(could[at], picks[at]); i+1 < len(could[at]) {
			return append(picks[:at], could[at][i+1]), true
		}
	}
	return nil, false
}

// of is an Alloc of n words, of the region that was made last.
func of(n int) task { return task{alloc, 0, n} }

// P14.1 to P14.3: behind each step of every order there can be.
func TestEveryOrder(t *testing.T) {
	free1, new1 := task{kind: free}, task{kind: create}
	for _, e := range []struct {
		chunks, cache, batch int
		ahead                bool
		tasks                [][]task
		least                int      // orders that there are surely, lest the going through ends too early
		had                  []string // what comes of one Alloc at least, in one order or another
	}{
		{2, 0, 1, false, [][]task{{of(3)}, {of(4)}}, 900, []string{"Fine", "missed with a chunk", "room again", "spilt"}},
		{2, 0, 1, false, [][]task{{of(3)}, {of(5)}}, 900, []string{"Fine", "missed with a chunk"}},
		{2, 1, 2, false, [][]task{{of(3)}, {of(4)}}, 2000, []string{"Fine", "OutOfMemory"}},
		{2, 0, 2, false, [][]task{{of(8)}, {of(8)}}, 10000, []string{"Fine", "OutOfMemory", "missed with a chunk", "spilt"}},
		{1, 0, 1, false, [][]task{{of(2)}, {of(3)}}, 500, []string{"Fine", "OutOfMemory"}},
		{1, 0, 1, false, [][]task{{of(2)}, {of(2), of(2)}}, 2000, []string{"Fine", "OutOfMemory", "missed"}},
		{1, 0, 1, false, [][]task{{of(3)}, {{drain, 0, 1}, {kind: put}, {kind: all}}}, 500, []string{"Fine", "OutOfMemory"}},
		{2, 0, 1, false, [][]task{{of(3)}, {free1}}, 100, []string{"Fine", "Stale", "missed with a chunk", "spilt"}},
		{1, 1, 1, false, [][]task{{of(3), of(3)}, {free1}}, 100, []string{"Fine", "Stale", "missed"}},
		{1, 0, 1, false, [][]task{{of(3), free1, new1, of(4)}, {{kind: advance}, {kind: advance}}}, 100, []string{"Fine", "OutOfMemory"}},
		{2, 0, 1, true, [][]task{{of(5), free1}, {of(2)}}, 1000, []string{"Fine", "Stale", "missed with a chunk", "spilt"}},
		{1, 0, 1, true, [][]task{{of(1), of(1)}, {of(2)}, {of(3)}}, 90, []string{"Fine", "missed"}},
		{2, 0, 1, true, [][]task{{of(3), of(4)}, {of(3)}}, 6, []string{"Fine", "missed"}},
		{3, 4, 1, true, [][]task{{of(4), of(3), of(2)}, {free1}}, 1000, []string{"Fine", "Stale", "missed"}},
	} {
		c := api.Config{Workers: 3, Chunks: e.chunks, Words: 8, Slots: 1, Cache: e.cache, Batch: e.batch}
		orders, had := eachOrder(t, c, e.ahead, e.tasks)
		if orders < e.least {
			t.Errorf("%+v, tasks %v: only %d orders", c, e.tasks, orders)
		}
		for _, what := range e.had {
			if had[what] == 0 {
				t.Errorf("%+v, tasks %v: no %s: %v", c, e.tasks, what, had)
			}
		}
	}
}

// P14.1 to P14.3: many workers for long, in orders drawn by a fixed rule, in bursts too: so that a machine may sleep while the others turn the regions and the pool.
func TestLongRuns(t *testing.T) {
	had := map[string]int{}
	for seed := range 400 {
		d := draw(seed + 1)
		c := api.Config{Workers: 5, Chunks: []int{1, 2, 5, 9, 20}[seed%5], Words: 8 + 8*(seed%2), Slots: 1 + seed%3, Cache: []int{0, 1, 4}[d.below(3)], Batch: 1 + d.below(8)}
		var tasks [][]task
		for range 1 + seed%5 {
			var l []task
			for range 40 {
				switch k := []kind{alloc, alloc, alloc, alloc, alloc, alloc, alloc, alloc, alloc, create, create, free, drain, put, put, all, advance}[d.below(17)]; k {
				case alloc:
					l = append(l, task{k, d.below(4) * d.below(2), 1 + d.below(1+d.below(c.Words))})
				case create:
					l = append(l, task{k, 0, d.below(4)})
				default:
					l = append(l, task{k, d.below(3), 1 + d.below(3)})
				}
			}
			tasks = append(tasks, l)
		}
		x := seated(t, c, []int{seed % 4}, tasks)
		for busy := x.busy(); len(busy) > 0; busy = x.busy() {
			w := busy[d.below(len(busy))]
			for range 1 + d.below(1+seed%7*3) {
				if x.hands[w].x != nil {
					x.pick(w)
				}
			}
		}
		for at := range size(c) {
			if v, want := x.p.m.Peek(at), x.q.m.Peek(at); v != want {
				t.Fatalf("seed %d: the cell %d holds %#x, want %#x", seed, at, v, want)
			}
		}
		for what, many := range x.had {
			had[what] += many
		}
	}
	for _, what := range []string{"Fine", "Stale", "OutOfMemory", "missed", "missed with a chunk", "room again", "spilt"} {
		if had[what] < 100 {
			t.Errorf("%s: only %d", what, had[what])
		}
	}
}
