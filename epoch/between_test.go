package epoch_test

import (
	"slices"
	"testing"

	"rundale/api"
	"rundale/cells"
	"rundale/epoch"
)

// task is which machine a worker makes next.
type task int

const (
	enter task = iota
	leave
	advance
)

// hand is a worker: its tasks that are left, the machine it is at, and the epoch that this loaded (-1: none yet).
type hand struct {
	tasks  []task
	at     machine
	loaded int
}

// table is some workers at one epoch. Those behind the last announcement make nothing but Advances.
type table struct {
	t     *testing.T
	m     *cells.Cells
	e     *epoch.Epoch
	first uint64 // the epoch's word at the beginning
	hands []*hand
	since map[int]int  // of each worker that is pinned: the epoch when it announced that
	from  map[int]bool // the epochs from which one Advance has won
	wins  int
	went  int // by how much, at most, the epoch has gone on while one was pinned
	picks []int
}

// seated is workers with these tasks at an epoch with so many announcements.
func seated(t *testing.T, first uint64, announcements int, tasks [][]task) *table {
	t.Helper()
	m, code := cells.New(announcements + 1)
	if code != api.Fine {
		t.Fatal("cells.New:", code)
	}
	m.Lay(0, first)
	x := &table{t: t, m: m, e: over(t, m, 0, 1, announcements), first: first, since: map[int]int{}, from: map[int]bool{}}
	for _, l := range tasks {
		x.hands = append(x.hands, &hand{tasks: l})
	}
	for w := range x.hands {
		x.begin(w)
	}
	return x
}

// begin has a worker at the next of its tasks.
func (x *table) begin(w int) {
	h := x.hands[w]
	h.at, h.loaded = nil, -1
	if len(h.tasks) == 0 {
		return
	}
	var code api.Code
	switch h.tasks[0] {
	case enter:
		h.at, code = x.e.Enter(w)
	case leave:
		h.at, code = x.e.Leave(w)
	case advance:
		h.at = x.e.Advance()
	}
	if code != api.Fine {
		x.t.Fatalf("the worker %d has no machine: %d", w, code)
	}
	h.tasks = h.tasks[1:]
}

// busy is the workers that can go on.
func (x *table) busy() []int {
	var l []int
	for w, h := range x.hands {
		if h.at != nil {
			l = append(l, w)
		}
	}
	return l
}

// pick has a worker do one access, and begin its next task with it if that was the end of one.
func (x *table) pick(w int) {
	x.t.Helper()
	x.picks = append(x.picks, w)
	h, count := x.hands[w], x.m.Count()
	if h.loaded < 0 {
		h.loaded = x.e.Now() // what its first access sees, if that is a Load of the epoch
	}
	if !h.at.Step() || x.m.Count() != count+1 {
		x.t.Fatalf("%v: a step did %d accesses", x.picks, x.m.Count()-count)
	}
	if !h.at.Done() {
		wantGoingOn(x.t, h.at)
	} else {
		x.end(w)
		x.begin(w)
	}
	x.wantBound()
}

// end holds what came of the machine that is done against what it did.
func (x *table) end(w int) {
	x.t.Helper()
	h := x.hands[w]
	switch at := h.at.(type) {
	case *epoch.Enter:
		if pinned, is := x.e.Pinned(w); at.Epoch() != h.loaded || pinned != h.loaded || !is {
			x.t.Fatalf("%v: the worker %d loaded %d; Epoch is %d, Pinned %d, %t", x.picks, w, h.loaded, at.Epoch(), pinned, is)
		}
		x.since[w] = x.e.Now()
	case *epoch.Leave:
		if pinned, is := x.e.Pinned(w); pinned != 0 || is {
			x.t.Fatalf("%v: the worker %d has left; Pinned %d, %t", x.picks, w, pinned, is)
		}
		delete(x.since, w)
	case *epoch.Advance:
		if at.Won() && x.from[h.loaded] {
			x.t.Fatalf("%v: two Advances have won from %d", x.picks, h.loaded)
		}
		if at.Won() {
			x.from[h.loaded] = true
			x.wins++
		}
	}
}

// wantBound: the epoch has gone on by one with each Advance that won, and since a worker has been pinned by one at most.
func (x *table) wantBound() {
	x.t.Helper()
	if x.m.Peek(0) != x.first+uint64(x.wins) {
		x.t.Fatalf("%v: behind %d that won, from %d on, the epoch's word is %d", x.picks, x.wins, x.first, x.m.Peek(0))
	}
	for w, then := range x.since {
		if _, is := x.e.Pinned(w); !is || x.e.Now() > then+1 {
			x.t.Fatalf("%v: the worker %d is pinned since %d (it is: %t), and the epoch is %d", x.picks, w, then, is, x.e.Now())
		}
		x.went = max(x.went, x.e.Now()-then)
	}
}

// eachOrder goes through every order in which the workers can go on: how many there are, and by how much the epoch went on at most while one was pinned. Each run begins with the picks of the one ahead of it, up to the last place where another worker could go on.
func eachOrder(t *testing.T, announcements int, tasks [][]task) (orders, went int) {
	t.Helper()
	var picks []int
	for more := true; more; orders++ {
		x := seated(t, 3, announcements, tasks)
		var could [][]int
		for busy := x.busy(); len(busy) > 0; busy = x.busy() {
			at := len(could)
			could = append(could, busy)
			if at == len(picks) {
				picks = append(picks, busy[0])
			}
			x.pick(picks[at])
		}
		went = max(went, x.went)
		picks, more = nextOrder(picks, could)
	}
	return orders, went
}

// nextOrder is how the next order begins, and whether there is one: the last pick that has another one behind it, among those that could go on there, gives way to it.
func nextOrder(picks []int, could [][]int) ([]int, bool) {
	for at := len(picks) - 1; at >= 0; at-- {
		if i := slices.Index(could[at], picks[at]); i+1 < len(could[at]) {
			return append(picks[:at], could[at][i+1]), true
		}
	}
	return nil, false
}

// P9.2, P9.3: behind each step of every order there can be.
func TestEveryOrder(t *testing.T) {
	for _, c := range []struct {
		announcements int
		tasks         [][]task
		least         int // orders that there are surely, lest the going through ends too early
	}{
		{1, [][]task{{enter, advance, advance, leave}, {advance, advance}}, 100},
		{1, [][]task{{enter}, {advance, advance}, {advance}}, 100},
		{1, [][]task{{enter}, {advance, advance}, {advance, advance}}, 1000},
		{1, [][]task{{enter, leave, enter}, {advance, advance, advance}}, 100},
		{2, [][]task{{enter, leave}, {advance, enter, advance}}, 100},
		{2, [][]task{{enter}, {enter}, {advance, advance}}, 1000},
		{2, [][]task{{enter, advance}, {enter, leave}, {advance}}, 1000},
		{3, [][]task{{enter}, {advance}, {advance}}, 1000},
	} {
		orders, went := eachOrder(t, c.announcements, c.tasks)
		if orders < c.least || went != 1 {
			t.Errorf("%d announcements, tasks %v: only %d orders, or the epoch goes on by %d while one is pinned, want 1", c.announcements, c.tasks, orders, went)
		}
	}
}

// P9.2, P9.3: many workers for long, in orders drawn by a fixed rule, in bursts too: so that a machine may sleep while the others have the epoch go on.
func TestLongRuns(t *testing.T) {
	for seed := range 80 {
		announcements := []int{1, 2, 3, 5, api.MaxWorkers}[seed%5]
		first := []uint64{0, 1, 1 << 32, api.MaxEpoch - 2000}[seed%4]
		var tasks [][]task
		for w := range announcements {
			var l []task
			for i := range 12 {
				l = append(l, slices.Repeat([]task{advance}, (i+w*seed)%4)...)
				l = append(l, enter)
				l = append(l, slices.Repeat([]task{advance}, (i*w+seed)%3)...)
				l = append(l, leave)
			}
			tasks = append(tasks, l)
		}
		for range 2 {
			tasks = append(tasks, slices.Repeat([]task{advance}, 30))
		}
		x := seated(t, first, announcements, tasks)
		drawn := uint64(seed + 1)
		for busy := x.busy(); len(busy) > 0; busy = x.busy() {
			drawn = drawn*6364136223846793005 + 1442695040888963407
			w := busy[int(drawn>>33)%len(busy)]
			for range 1 + int(drawn>>40)%(1+seed%7) {
				if x.hands[w].at != nil {
					x.pick(w)
				}
			}
		}
		if x.wins == 0 {
			t.Errorf("seed %d: the epoch didn't go on", seed)
		}
	}
}

// P9.2: of several Advances at once from one epoch one wins: the first whose exchange comes.
func TestOneAdvanceWins(t *testing.T) {
	for _, was := range []uint64{0, 8, api.MaxEpoch, 1<<64 - 1} {
		for first := range 5 {
			m, e := begun(t, was, 0, 0)
			var l []*epoch.Advance
			for range 5 {
				l = append(l, advancing(t, m, e))
			}
			for _, a := range l {
				wantSteps(t, m, a, false, load(0, was), load(1, 0))
			}
			for _, a := range l {
				wantSteps(t, m, a, false, load(2, 0))
			}
			wantSteps(t, m, l[first], true, turn(0, was, was+1))
			for i, a := range l {
				if i != first {
					wantSteps(t, m, a, true, missed(0, was+1))
				}
			}
			for i, a := range l {
				wantWon(t, a, i == first)
			}
			wantHeld(t, m, was+1, 0, 0)
		}
	}
}

// P9.3: one that sleeps between its two accesses announces an elder epoch: an Advance that has looked past it ahead of that wins still, then none does, until it leaves.
func TestEnterThatSleeps(t *testing.T) {
	m, e := begun(t, 0, 0, 0)
	sleeper := entering(t, m, e, 0)
	wantSteps(t, m, sleeper, false, load(0, 0))
	for range 3 {
		through(t, m, advancing(t, m, e))
	}
	past, beside := advancing(t, m, e), advancing(t, m, e)
	wantSteps(t, m, past, false, load(0, 3), load(1, 0))
	wantSteps(t, m, beside, false, load(0, 3), load(1, 0), load(2, 0))
	early := advancing(t, m, e)
	wantSteps(t, m, early, false, load(0, 3))
	wantSteps(t, m, sleeper, true, store(1, 0, pin(0)))
	wantEpoch(t, sleeper, 0)
	wantSteps(t, m, early, true, load(1, pin(0)))
	wantSteps(t, m, past, true, load(2, 0), turn(0, 3, 4))
	wantSteps(t, m, beside, true, missed(0, 4))
	for range 5 {
		wantSteps(t, m, advancing(t, m, e), true, load(0, 4), load(1, pin(0)))
	}
	wantNow(t, e, 4)
	through(t, m, leaving(t, m, e, 0))
	through(t, m, advancing(t, m, e))
	wantNow(t, e, 5)
}

// P9.3: of all that are pinned each holds the epoch up by itself, whoever it is.
func TestEachPinnedWorkerHoldsItUp(t *testing.T) {
	for _, workers := range []int{1, 2, 7, api.MaxWorkers} {
		for worker := range workers {
			m, e := begun(t, make([]uint64, workers+1)...)
			through(t, m, entering(t, m, e, worker))
			for range 4 {
				through(t, m, advancing(t, m, e))
			}
			wantNow(t, e, 1)
			for other := range workers {
				if other != worker {
					through(t, m, entering(t, m, e, other))
					through(t, m, leaving(t, m, e, other))
				}
			}
			through(t, m, advancing(t, m, e))
			wantNow(t, e, 1)
			through(t, m, leaving(t, m, e, worker))
			for range 4 {
				through(t, m, advancing(t, m, e))
			}
			wantNow(t, e, 5)
		}
	}
}

// P9.3: a worker's next pin is another one: it holds the epoch up from where that is then.
func TestPinsOneBehindTheOther(t *testing.T) {
	m, e := begun(t, 0, 0, 0)
	for round := range 6 {
		n := entering(t, m, e, round%2)
		through(t, m, n)
		wantEpoch(t, n, round)
		for range 3 {
			through(t, m, advancing(t, m, e))
		}
		wantNow(t, e, round+1)
		through(t, m, leaving(t, m, e, round%2))
	}
}
