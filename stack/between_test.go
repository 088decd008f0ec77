package stack_test

import (
	"slices"
	"testing"

	"rundale/cells"
	"rundale/stack"
)

// task is what a worker does next: a Pop of most items, or (most 0) a Push of the first back items that it has.
type task struct{ most, back int }

// hand is a worker: its tasks that are left, the items that it has, and the machine it is at.
type hand struct {
	tasks []task
	has   []int
	pop   *stack.Pop
	push  *stack.Push
	back  int // how many of the first that it has are being pushed
}

// table is some workers at one stack.
type table struct {
	t     *testing.T
	m     *cells.Cells
	s     *stack.Stack
	n     int
	hands []*hand
}

// seated is workers with these tasks at a full stack of n.
func seated(t *testing.T, n int, tasks [][]task) *table {
	m, s := filled(t, n)
	x := &table{t: t, m: m, s: s, n: n}
	for _, l := range tasks {
		h := &hand{tasks: l}
		x.begin(h)
		x.hands = append(x.hands, h)
	}
	return x
}

// begin has h at the next of its tasks that needs an access.
func (x *table) begin(h *hand) {
	for h.pop == nil && h.push == nil && len(h.tasks) > 0 {
		k := h.tasks[0]
		h.tasks = h.tasks[1:]
		if k.most > 0 {
			h.pop = x.s.Pop(k.most)
		} else if h.back = min(k.back, len(h.has)); h.back > 0 {
			h.push, _ = x.s.Push(h.has[:h.back]...)
		}
	}
}

// busy is the workers that can go on.
func (x *table) busy() []int {
	var l []int
	for w, h := range x.hands {
		if h.pop != nil || h.push != nil {
			l = append(l, w)
		}
	}
	return l
}

// pick has a worker do one access, and begin its next task with it if that was the end of one.
func (x *table) pick(w int) {
	h, count := x.hands[w], x.m.Count()
	switch {
	case h.pop != nil:
		if !h.pop.Step() {
			x.t.Fatal("a Pop at work doesn't go on")
		}
		if h.pop.Done() {
			h.has = append(h.has, h.pop.Got()...)
			h.pop = nil
		} else if len(h.pop.Got()) > 0 {
			x.t.Fatalf("Got = %v ahead of the end", h.pop.Got())
		}
	case h.push != nil:
		if !h.push.Step() {
			x.t.Fatal("a Push at work doesn't go on")
		}
		if h.push.Done() {
			h.has, h.push = slices.Clone(h.has[h.back:]), nil
		}
	}
	x.begin(h)
	if x.m.Count() != count+1 {
		x.t.Fatalf("a step did %d accesses", x.m.Count()-count)
	}
}

// wantOnce: each item is in the stack or in one worker's hands, and just once.
func (x *table) wantOnce(picks []int) {
	all := x.s.List()
	for _, h := range x.hands {
		all = append(all, h.has...)
	}
	slices.Sort(all)
	if !slices.Equal(all, upTo(x.n)) {
		x.t.Fatalf("behind the picks %v there are the items %v; the stack is %v", picks, all, x.s.List())
	}
}

// eachOrder goes through every order in which the workers can go on: how many there are. Each run begins with the picks of the one ahead of it, up to the last place where another worker could go on.
func eachOrder(t *testing.T, n int, tasks [][]task) int {
	orders := 0
	var picks []int
	for more := true; more; orders++ {
		x := seated(t, n, tasks)
		var could [][]int
		for busy := x.busy(); len(busy) > 0; busy = x.busy() {
			at := len(could)
			could = append(could, busy)
			if at == len(picks) {
				picks = append(picks, busy[0])
			}
			x.pick(picks[at])
			x.wantOnce(picks[:at+1])
		}
		picks, more = nextOrder(picks, could)
	}
	return orders
}

// nextOrder is how the next order begins, and whether there is one: the last pick that has another one behind it, among those that could go on there, gives way to it.
func nextOrder(picks []int, could [][]int) ([]int, bool) {
	for at := len(picks) - 1; at >= 0; at-- {
		if i := slices.Index(could[at], picks[at]); i+1 < len(could[at]) {
			return append(picks[:at], could[at][i+1]), true
		}
	}
	return nil, false
}

// P6.4: behind each step of every order there can be.
func TestEachItemOnceInEveryOrder(t *testing.T) {
	for _, c := range []struct {
		n     int
		tasks [][]task
		least int // orders that there are surely, lest the going through ends too early
	}{
		{1, [][]task{{{1, 0}, {0, 1}}, {{1, 0}}}, 5},
		{2, [][]task{{{1, 0}}, {{1, 0}}, {{1, 0}}}, 1680},
		{3, [][]task{{{1, 0}}, {{2, 0}, {0, 1}}}, 120},
		{4, [][]task{{{2, 0}}, {{3, 0}, {0, 1}}}, 200},
		{4, [][]task{{{1, 0}, {0, 1}}, {{2, 0}, {0, 1}}}, 1000},
		{3, [][]task{{{2, 0}, {0, 2}}, {{1, 0}, {0, 1}}}, 1000},
	} {
		if orders := eachOrder(t, c.n, c.tasks); orders < c.least {
			t.Errorf("a stack of %d, tasks %v: only %d orders", c.n, c.tasks, orders)
		}
	}
}

// P6.4: many workers that take and give back for long, in orders drawn by a fixed rule, in bursts too: so that a machine may sleep while the others turn the stack.
func TestEachItemOnceInLongRuns(t *testing.T) {
	for seed := range 60 {
		n := []int{1, 2, 5, 9, 30}[seed%5]
		var tasks [][]task
		for w := range 2 + seed%4 {
			var l []task
			for i := range 25 {
				l = append(l, task{most: 1 + (i+w+seed)%9}, task{back: 1 + (i*w+seed)%4}, task{back: n * (i % 2)})
			}
			tasks = append(tasks, l)
		}
		x := seated(t, n, tasks)
		drawn := uint64(seed + 1)
		var picks []int
		for busy := x.busy(); len(busy) > 0; busy = x.busy() {
			drawn = drawn*6364136223846793005 + 1442695040888963407
			w := busy[int(drawn>>33)%len(busy)]
			for range 1 + int(drawn>>40)%(1+seed%7) {
				if slices.Contains(x.busy(), w) {
					picks = append(picks, w)
					x.pick(w)
					x.wantOnce(picks)
				}
			}
		}
	}
}

// P6.4: what was put in ahead of the run, and by pushes alone, is all there: each Push one piece, in one order.
func TestPushesInTurns(t *testing.T) {
	pieces := [][]int{{0, 1, 2}, {3}, {4, 5}}
	m := made(t, 8, 0)
	s := over(t, m, 0, 1, 7)
	through(t, m, pushing(t, m, s, 6))
	var l []*stack.Push
	for _, piece := range pieces {
		l = append(l, pushing(t, m, s, piece...))
	}
	steps := 0
	for going := true; going; {
		going = false
		for _, p := range l {
			if p.Step() {
				going = true
				steps++
			}
		}
	}
	// The Push of one is done first; the other two have then to look again, the longer one more often.
	wantList(t, s, 0, 1, 2, 4, 5, 3, 6)
	if steps <= 3+4+5 {
		t.Errorf("%d steps: no exchange failed", steps)
	}
	if m.Peek(0) != head(0, 4) {
		t.Errorf("the head is %#x", m.Peek(0))
	}
}

// P6.3, P6.4: a Pop that sleeps while the item that it saw is taken, and comes back over another one: the Tag tells it.
func TestPopThatSleeps(t *testing.T) {
	m, s := filled(t, 4)
	sleeper := popping(t, m, s, 1)
	wantSteps(t, m, sleeper, false, load(0, 1), load(1, 2))
	other := popping(t, m, s, 2)
	through(t, m, other)
	wantGot(t, other, 0, 1)
	through(t, m, pushing(t, m, s, 0))
	wantList(t, s, 0, 2, 3)
	wantSteps(t, m, sleeper, true,
		missed(0, head(0, 2)), load(0, head(0, 2)), load(1, 3), turn(0, head(0, 2), head(2, 3)))
	wantGot(t, sleeper, 0)
	wantList(t, s, 2, 3)
}

// P6.2, P6.4: a Push that sleeps while the item that it stands its own upon is taken.
func TestPushThatSleeps(t *testing.T) {
	m, s := filled(t, 4)
	mine := popping(t, m, s, 2)
	through(t, m, mine)
	sleeper := pushing(t, m, s, mine.Got()...)
	wantSteps(t, m, sleeper, false, store(1, 2, 2), load(0, head(2, 1)), store(2, 3, 3))
	through(t, m, popping(t, m, s, 1))
	wantSteps(t, m, sleeper, true,
		missed(0, head(3, 2)), load(0, head(3, 2)), store(2, 3, 4), turn(0, head(3, 2), head(0, 3)))
	wantList(t, s, 0, 1, 3)
}
