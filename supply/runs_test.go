package supply_test

import (
	"iter"
	"slices"
	"testing"

	"rundale/api"
	"rundale/cells"
	"rundale/stack"
	"rundale/supply"
)

// waiting is a chunk that waits, and its tag.
type waiting struct{ tag, chunk int }

// plain is the telling of a supply: lists in their plainest form, over cells of its own, to which all is done that is done to the supply's.
type plain struct {
	m     *cells.Cells
	c     api.Config
	pool  *stack.Stack
	kept  []int
	waits []waiting // in the order in which they were retired, which is that of their tags too
}

// take tells a Take, and what comes of it; access waits for the Step that does the next one.
func (p *plain) take(came *told) iter.Seq[struct{}] {
	return func(access func(struct{}) bool) {
		came.seen = -1
		if len(p.kept) == 0 && len(p.waits) > 0 {
			if !access(struct{}{}) {
				return
			}
			w, _ := p.m.Load(epochAt)
			came.seen = int(min(w, api.MaxEpoch))
			p.ready(came.seen)
		}
		if last := len(p.kept) - 1; last >= 0 {
			came.chunk, came.is = p.kept[last], true
			p.kept = p.kept[:last]
			return
		}
		pop := p.pool.Pop(p.c.Batch)
		for !pop.Done() {
			if !access(struct{}{}) {
				return
			}
			pop.Step()
		}
		if got := pop.Got(); len(got) > 0 {
			came.chunk, came.is = got[0], true
			p.kept = append(p.kept, got[1:]...)
		}
	}
}

// give tells a Spill or an All: the first so many of what is kept are pushed.
func (p *plain) give(many int, came *told) iter.Seq[struct{}] {
	l := slices.Clone(p.kept[:many])
	p.kept = slices.Clone(p.kept[many:])
	return func(access func(struct{}) bool) {
		push, _ := p.pool.Push(l...)
		for came.hand = l; !push.Done(); push.Step() {
			if !access(struct{}{}) {
				return
			}
		}
		came.hand = nil
	}
}

func (p *plain) retire(tag int, chunks []int) {
	p.keep(func(w waiting) bool { return w.tag%3 == tag%3 && w.tag < tag })
	for _, chunk := range chunks {
		p.waits = append(p.waits, waiting{tag, chunk})
	}
}

func (p *plain) ready(now int) int {
	return p.keep(func(w waiting) bool { return w.tag+2 <= now })
}

// keep keeps those that need wait no more: how many.
func (p *plain) keep(goes func(waiting) bool) int {
	n := len(p.waits)
	p.waits = slices.DeleteFunc(p.waits, func(w waiting) bool {
		if goes(w) {
			p.kept = append(p.kept, w.chunk)
		}
		return goes(w)
	})
	return n - len(p.waits)
}

// work is a machine beside its telling.
type work struct {
	x    machine
	came *told // by its telling
	next func() (struct{}, bool)
	stop func()
	done bool // by its telling
}

func newWork(x machine, came *told, telling iter.Seq[struct{}]) *work {
	w := &work{x: x, came: came}
	w.next, w.stop = iter.Pull(telling)
	w.goOn()
	return w
}

// goOn has the telling do its next access, if it waits for one, and all up to the one behind that.
func (w *work) goOn() {
	_, more := w.next()
	w.done = !more
}

// task is what a worker does next.
type task int

const (
	take   task = iota
	put         // the first chunk of its hand
	retire      // all that it has in its hand, under the epoch
	ready       // of the epoch
	spill
	all
	advance // the epoch goes on by one
)

// hand is a worker: its tasks that are left, its supply and the telling of it, the chunks that it took, and the machine it is at.
type hand struct {
	tasks []task
	s     *supply.Supply
	p     *plain
	has   []int
	at    *work
}

// table is some workers over one memory, beside a memory of the tellings.
type table struct {
	t       *testing.T
	c       api.Config
	m, twin *cells.Cells
	pool    *stack.Stack
	hands   []*hand
	picks   []int
	failed  int // exchanges that did not exchange
}

// seated is workers with these tasks at a full pool.
func seated(t *testing.T, c api.Config, epoch uint64, tasks [][]task) *table {
	t.Helper()
	x := &table{t: t, c: c}
	x.m, x.twin = made(t, size(c), 0), made(t, size(c), 0)
	for _, m := range []*cells.Cells{x.m, x.twin} {
		layPool(m, c, span(0, c.Chunks)...)
		m.Lay(epochAt, epoch)
	}
	pool, _ := stack.New(x.twin, poolHead, linkAt(c, 0), c.Chunks)
	x.pool = chainsOf(t, x.m, c).Pool()
	for _, l := range tasks {
		s, code := supply.New(x.m, c)
		if code != api.Fine {
			t.Fatal("New:", code)
		}
		h := &hand{tasks: l, s: s, p: &plain{m: x.twin, c: c, pool: pool}}
		x.hands = append(x.hands, h)
	}
	for _, h := range x.hands {
		x.begin(h)
	}
	return x
}

// epoch is the one that both memories hold.
func (x *table) epoch() int { return int(min(x.m.Peek(epochAt), api.MaxEpoch)) }

// begin has a worker do its tasks up to the first one that needs an access.
func (x *table) begin(h *hand) {
	x.t.Helper()
	for h.at == nil && len(h.tasks) > 0 && h.tasks[0] != advance {
		k := h.tasks[0]
		h.tasks = h.tasks[1:]
		x.do(h, k)
	}
}

func (x *table) do(h *hand, k task) {
	x.t.Helper()
	came := &told{}
	switch k {
	case take:
		h.at = newWork(h.s.Take(), came, h.p.take(came))
	case spill:
		h.at = newWork(h.s.Spill(), came, h.p.give(max(len(h.p.kept)-x.c.Cache, 0), came))
	case all:
		h.at = newWork(h.s.All(), came, h.p.give(len(h.p.kept), came))
	case put:
		if len(h.has) > 0 {
			h.s.Put(h.has[0])
			h.p.kept = append(h.p.kept, h.has[0])
			h.has = h.has[1:]
		}
	case ready:
		if got, want := h.s.Ready(x.epoch()), h.p.ready(x.epoch()); got != want {
			x.t.Fatalf("%v: Ready(%d) = %d, want %d", x.picks, x.epoch(), got, want)
		}
	case retire:
		x.retire(h)
	}
	if h.at != nil {
		x.wantLike(h)
		x.end(h)
	}
}

// retire: is nothing to be retired, that is told.
func (x *table) retire(h *hand) {
	x.t.Helper()
	code := h.s.Retire(x.epoch(), h.has...)
	if (code == api.Fine) != (len(h.has) > 0) {
		x.t.Fatalf("%v: Retire(%d, %v) = %d", x.picks, x.epoch(), h.has, code)
	}
	if code == api.Fine {
		h.p.retire(x.epoch(), h.has)
		h.has = nil
	}
}

// wantLike: a machine tells what its telling does.
func (x *table) wantLike(h *hand) {
	x.t.Helper()
	if now := tells(h.at.x); h.at.x.Done() != h.at.done || !now.like(*h.at.came) {
		x.t.Fatalf("%v: Done %t, %+v, want %t, %+v", x.picks, h.at.x.Done(), now, h.at.done, *h.at.came)
	}
}

// end lets a machine that is done go.
func (x *table) end(h *hand) {
	if !h.at.done {
		return
	}
	if h.at.came.is {
		h.has = append(h.has, h.at.came.chunk)
	}
	h.at.stop()
	h.at = nil
}

// busy is the workers that can go on.
func (x *table) busy() []int {
	var l []int
	for w, h := range x.hands {
		if h.at != nil || len(h.tasks) > 0 {
			l = append(l, w)
		}
	}
	return l
}

// pick has a worker do one access, and begin its next task with it if that was the end of one.
func (x *table) pick(w int) {
	x.t.Helper()
	x.picks = append(x.picks, w)
	h, count := x.hands[w], x.m.Count()
	if h.at == nil {
		x.m.Add(epochAt, 1)
		x.twin.Add(epochAt, 1)
		h.tasks = h.tasks[1:]
	} else {
		if !h.at.x.Step() {
			x.t.Fatalf("%v: a machine at work doesn't go on", x.picks)
		}
		h.at.goOn()
		x.wantLike(h)
		x.end(h)
	}
	if x.m.Count() != count+1 || x.m.Last() != x.twin.Last() {
		x.t.Fatalf("%v: %d accesses, the last %+v, want %+v", x.picks, x.m.Count()-count, x.m.Last(), x.twin.Last())
	}
	if !x.m.Last().Ok {
		x.failed++
	}
	x.begin(h)
	x.wantShown()
}

// wantShown: each supply shows what its telling does; and each chunk is in the pool, in one stash, in one bucket or in one's hands, once.
func (x *table) wantShown() {
	x.t.Helper()
	at := x.pool.List()
	for w, h := range x.hands {
		if got := h.s.Stash(); !slices.Equal(got, h.p.kept) {
			x.t.Fatalf("%v: the worker %d keeps %v, want %v", x.picks, w, got, h.p.kept)
		}
		at = append(at, h.s.Stash()...)
		for k := range 3 {
			x.wantBucket(h, k)
			_, l := h.s.Bucket(k)
			at = append(at, l...)
		}
		at = append(at, h.has...)
		if h.at != nil {
			at = append(at, tells(h.at.x).hand...)
		}
	}
	slices.Sort(at)
	if !slices.Equal(at, span(0, x.c.Chunks)) {
		x.t.Fatalf("%v: the chunks are %v", x.picks, at)
	}
}

func (x *table) wantBucket(h *hand, k int) {
	x.t.Helper()
	var want bucket
	for _, w := range h.p.waits {
		if w.tag%3 == k {
			want.tag, want.chunks = w.tag, append(want.chunks, w.chunk)
		}
	}
	if tag, l := h.s.Bucket(k); tag != want.tag || !slices.Equal(l, want.chunks) {
		x.t.Fatalf("%v: Bucket(%d) = %d, %v, want %d, %v", x.picks, k, tag, l, want.tag, want.chunks)
	}
}

// eachOrder goes through every order in which the workers can go on: how many there are, and how many exchanges failed in all. Each run begins with the picks of the one ahead of it, up to the last place where another worker could go on.
func eachOrder(t *testing.T, c api.Config, tasks [][]task) (orders, failed int) {
	t.Helper()
	var picks []int
	for more := true; more; orders++ {
		x := seated(t, c, 3, tasks)
		var could [][]int
		for busy := x.busy(); len(busy) > 0; busy = x.busy() {
			at := len(could)
			could = append(could, busy)
			if at == len(picks) {
				picks = append(picks, busy[0])
			}
			x.pick(picks[at])
		}
		failed += x.failed
		picks, more = nextOrder(picks, could)
	}
	return orders, failed
}

// nextOrder is how the next order begins, and whether there is one: the last pick that has another one behind it, among those that could go on there, gives way to it.
func nextOrder(picks []int, could [][]int) ([]int, bool) {
	for at := len(picks) - 1; at >= 0; at-- {
		if i := slices.Index(could[at], picks[at]); i+1 < len(could[at]) {
			return append(picks[:at], could[at][i+1]), true
		}
	}
	return nil, false
}

// P13.1 to P13.3: behind each step of every order there can be.
func TestEveryOrder(t *testing.T) {
	for _, e := range []struct {
		c     api.Config
		tasks [][]task
		least int // orders that there are surely, lest the going through ends too early
	}{
		{sized(1, 0, 1), [][]task{{take, put, all}, {take}}, 100},
		{sized(2, 0, 2), [][]task{{take, spill}, {take, put, spill}}, 1000},
		{sized(3, 0, 1), [][]task{{take, take}, {take, take}}, 3000},
		{sized(4, 1, 3), [][]task{{take, take, put, put, spill}, {take}}, 10000},
		{sized(3, 0, 1), [][]task{{take, retire, take}, {advance, advance, take}}, 800},
		{sized(1, 0, 1), [][]task{{take, retire, take, take}, {advance, advance, advance, take}}, 1000},
		{sized(2, 1, 1), [][]task{{take, retire, take, put, take, all}, {advance, advance}}, 30},
		{sized(3, 0, 2), [][]task{{take, retire, all}, {take, take, put}}, 1000},
	} {
		orders, failed := eachOrder(t, e.c, e.tasks)
		if orders < e.least || failed == 0 && e.tasks[1][0] == take {
			t.Errorf("%+v, tasks %v: only %d orders, %d exchanges failed", e.c, e.tasks, orders, failed)
		}
	}
}

// P13.1 to P13.3: many workers for long, in orders drawn by a fixed rule, in bursts too: so that a machine may sleep while the others turn the pool and the epoch goes on.
func TestLongRuns(t *testing.T) {
	for seed := range 300 {
		d := draw(seed + 1)
		c := sized([]int{1, 2, 5, 9, 30}[seed%5], []int{0, 1, 4}[seed%3], 1+seed%8)
		var tasks [][]task
		for range 1 + seed%5 {
			var l []task
			for range 60 {
				l = append(l, []task{take, take, take, take, put, put, retire, retire, ready, spill, spill, all, advance, advance}[d.below(14)])
			}
			tasks = append(tasks, l)
		}
		x := seated(t, c, []uint64{0, 1, 1 << 32, api.MaxEpoch - 20, 1<<64 - 1000}[seed%5], tasks)
		for busy := x.busy(); len(busy) > 0; busy = x.busy() {
			w := busy[d.below(len(busy))]
			for range 1 + d.below(1+seed%7) {
				if slices.Contains(x.busy(), w) {
					x.pick(w)
				}
			}
		}
		x.wantAllBack()
	}
}

// wantAllBack: when nobody is at work and the epoch has gone on, all that is kept or waits comes back to the pool.
func (x *table) wantAllBack() {
	x.t.Helper()
	out := 0
	for _, h := range x.hands {
		h.s.Ready(api.MaxEpoch + 2)
		through(x.t, x.m, h.s.All())
		wantStash(x.t, h.s)
		wantLimbo(x.t, h.s)
		out += len(h.has)
	}
	if l := x.pool.List(); len(l)+out != x.c.Chunks {
		x.t.Errorf("%v: the pool is %v, the workers have %d", x.picks, l, out)
	}
}
