package epoch_test

import (
	"math"
	"slices"
	"testing"

	"rundale/api"
	"rundale/cells"
	"rundale/epoch"
)

// extremes are numbers far out of all bounds: the ends of all numbers, and those that look small when their upper bits are lost.
var extremes = []int{math.MinInt, math.MinInt + 1, -1 << 62, -1 << 32, 1 << 32, 1<<32 + 1, 1 << 62, math.MaxInt - 1, math.MaxInt}

// epochs are words of an epoch's cell, and the epoch that each counts as.
var epochs = []struct {
	word uint64
	want int
}{
	{0, 0}, {1, 1}, {2, 2}, {7, 7}, {1 << 31, 1 << 31}, {1 << 32, 1 << 32}, {1<<61 + 3, 1<<61 + 3},
	{api.MaxEpoch - 1, api.MaxEpoch - 1}, {api.MaxEpoch, api.MaxEpoch}, {api.MaxEpoch + 1, api.MaxEpoch}, {api.MaxEpoch + 2, api.MaxEpoch},
	{1<<63 - 1, api.MaxEpoch}, {1 << 63, api.MaxEpoch}, {1<<63 + 5, api.MaxEpoch}, {math.MaxUint64 - 1, api.MaxEpoch}, {math.MaxUint64, api.MaxEpoch},
}

// machine is what an Enter, a Leave and an Advance have in common.
type machine interface {
	Step() bool
	Done() bool
}

// laid is a memory that holds these words.
func laid(t *testing.T, words ...uint64) *cells.Cells {
	t.Helper()
	m, code := cells.New(len(words))
	if code != api.Fine {
		t.Fatalf("cells.New(%d): %d", len(words), code)
	}
	for at, v := range words {
		m.Lay(at, v)
	}
	return m
}

// made is a memory of n cells, each of which holds v.
func made(t *testing.T, n int, v uint64) *cells.Cells {
	t.Helper()
	return laid(t, slices.Repeat([]uint64{v}, n)...)
}

// over is an epoch over m's cells, which as it is made does no access.
func over(t *testing.T, m *cells.Cells, at, pins, workers int) *epoch.Epoch {
	t.Helper()
	count, words := m.Count(), held(m)
	e, code := epoch.New(m, at, pins, workers)
	if e == nil || code != api.Fine {
		t.Fatalf("New(%d, %d, %d) = %v, %d, want an epoch and Fine", at, pins, workers, e, code)
	}
	wantUntouched(t, m, count, words)
	return e
}

// begun is an epoch in the cell 0, with the announcements behind it: these words.
func begun(t *testing.T, words ...uint64) (*cells.Cells, *epoch.Epoch) {
	t.Helper()
	m := laid(t, words...)
	return m, over(t, m, 0, 1, len(words)-1)
}

// entering is an Enter that is Fine, and as it is made does no access.
func entering(t *testing.T, m *cells.Cells, e *epoch.Epoch, worker int) *epoch.Enter {
	t.Helper()
	count, words := m.Count(), held(m)
	n, code := e.Enter(worker)
	if n == nil || code != api.Fine {
		t.Fatalf("Enter(%d) = %v, %d, want a machine and Fine", worker, n, code)
	}
	wantUntouched(t, m, count, words)
	wantGoingOn(t, n)
	return n
}

// leaving is a Leave that is Fine, and as it is made does no access.
func leaving(t *testing.T, m *cells.Cells, e *epoch.Epoch, worker int) *epoch.Leave {
	t.Helper()
	count, words := m.Count(), held(m)
	l, code := e.Leave(worker)
	if l == nil || code != api.Fine {
		t.Fatalf("Leave(%d) = %v, %d, want a machine and Fine", worker, l, code)
	}
	wantUntouched(t, m, count, words)
	wantGoingOn(t, l)
	return l
}

// advancing is an Advance, which as it is made does no access.
func advancing(t *testing.T, m *cells.Cells, e *epoch.Epoch) *epoch.Advance {
	t.Helper()
	count, words := m.Count(), held(m)
	a := e.Advance()
	if a == nil {
		t.Fatal("Advance is nil")
	}
	wantUntouched(t, m, count, words)
	wantGoingOn(t, a)
	return a
}

// wantSteps goes on with x, and holds each access against the one that is to come; is the last one the end, x is to be done behind it and not ahead.
func wantSteps(t *testing.T, m *cells.Cells, x machine, end bool, want ...cells.Access) {
	t.Helper()
	for i, a := range want {
		wantGoingOn(t, x)
		count := m.Count()
		if !x.Step() {
			t.Fatalf("step %d of %d: false", i, len(want))
		}
		if m.Count() != count+1 || m.Last() != a {
			t.Fatalf("step %d of %d: %d accesses, the last %+v, want %+v", i, len(want), m.Count()-count, m.Last(), a)
		}
	}
	if end {
		wantDone(t, m, x)
	} else {
		wantGoingOn(t, x)
	}
}

// wantGoingOn: x is not done, and nothing has come of it yet.
func wantGoingOn(t *testing.T, x machine) {
	t.Helper()
	if x.Done() {
		t.Fatal("it is done too early")
	}
	if n, ok := x.(*epoch.Enter); ok && n.Epoch() != 0 {
		t.Errorf("Epoch = %d ahead of the end", n.Epoch())
	}
	if a, ok := x.(*epoch.Advance); ok && a.Won() {
		t.Error("Won ahead of the end")
	}
}

// wantDone: x is done, and it and the cells stay as they are however often it is to go on.
func wantDone(t *testing.T, m *cells.Cells, x machine) {
	t.Helper()
	if !x.Done() {
		t.Fatal("it is not done")
	}
	count, words, came := m.Count(), held(m), outcome(x)
	for range 3 {
		if x.Step() || !x.Done() || outcome(x) != came {
			t.Fatalf("a Step behind the end: Done %t, what came of it %d, was %d", x.Done(), outcome(x), came)
		}
		wantUntouched(t, m, count, words)
	}
}

// outcome is what came of x, as a number: an Enter's Epoch, 1 of an Advance that Won.
func outcome(x machine) int {
	if n, ok := x.(*epoch.Enter); ok {
		return n.Epoch()
	}
	if a, ok := x.(*epoch.Advance); ok && a.Won() {
		return 1
	}
	return 0
}

// through does all of x's accesses that are left: how many.
func through(t *testing.T, m *cells.Cells, x machine) int {
	t.Helper()
	n := 0
	for ; !x.Done() && n < 1000; n++ {
		wantGoingOn(t, x)
		count := m.Count()
		if !x.Step() || m.Count() != count+1 {
			t.Fatalf("step %d: %d accesses", n, m.Count()-count)
		}
	}
	wantDone(t, m, x)
	return n
}

// held is what all cells hold.
func held(m *cells.Cells) []uint64 {
	var words []uint64
	for at := range m.Len() {
		words = append(words, m.Peek(at))
	}
	return words
}

func wantHeld(t *testing.T, m *cells.Cells, words ...uint64) {
	t.Helper()
	if got := held(m); !slices.Equal(got, words) {
		t.Errorf("the cells hold %v, want %v", got, words)
	}
}

// wantUntouched: there were so many accesses, and the cells hold these words.
func wantUntouched(t *testing.T, m *cells.Cells, count int, words []uint64) {
	t.Helper()
	wantHeld(t, m, words...)
	if m.Count() != count {
		t.Errorf("%d accesses", m.Count()-count)
	}
}

func wantNow(t *testing.T, e *epoch.Epoch, want int) {
	t.Helper()
	if got := e.Now(); got != want {
		t.Errorf("Now = %d, want %d", got, want)
	}
}

func wantPinned(t *testing.T, e *epoch.Epoch, worker, at int, is bool) {
	t.Helper()
	if gotAt, gotIs := e.Pinned(worker); gotAt != at || gotIs != is {
		t.Errorf("Pinned(%d) = %d, %t, want %d, %t", worker, gotAt, gotIs, at, is)
	}
}

func wantEpoch(t *testing.T, n *epoch.Enter, want int) {
	t.Helper()
	if got := n.Epoch(); got != want {
		t.Errorf("Epoch = %d, want %d", got, want)
	}
}

func wantWon(t *testing.T, a *epoch.Advance, want bool) {
	t.Helper()
	if a.Won() != want {
		t.Errorf("Won = %t, want %t", !want, want)
	}
}

// pin is the announcement of one that is pinned at that epoch, by the document's words.
func pin(at int) uint64 { return 2*uint64(at) + 1 }

func load(at int, v uint64) cells.Access {
	return cells.Access{Kind: cells.Load, At: at, Old: v, New: v, Ok: true}
}

func store(at int, was, v uint64) cells.Access {
	return cells.Access{Kind: cells.Store, At: at, Old: was, New: v, Ok: true}
}

func turn(at int, was, v uint64) cells.Access {
	return cells.Access{Kind: cells.Cas, At: at, Old: was, New: v, Ok: true}
}

// missed is an exchange that fails, for the cell holds v.
func missed(at int, v uint64) cells.Access {
	return cells.Access{Kind: cells.Cas, At: at, Old: v, New: v}
}

// P9.2
func TestExample(t *testing.T) {
	m, e := begun(t, 0, 0)
	a := advancing(t, m, e)
	if n := through(t, m, a); n != 3 {
		t.Errorf("%d accesses, want 3", n)
	}
	wantWon(t, a, true)
	wantNow(t, e, 1)
}

// P9.1: one worker and MaxWorkers of them; at ahead of the announcements, behind them, next to them, far off; the last cell.
func TestNewWhereItMayBe(t *testing.T) {
	const most = api.MaxWorkers
	for _, c := range []struct{ cells, at, pins, workers int }{
		{2, 0, 1, 1}, {2, 1, 0, 1}, {10, 0, 1, 9}, {10, 9, 0, 9}, {10, 4, 1, 3}, {10, 0, 1, 3}, {10, 0, 9, 1}, {10, 9, 2, 1}, {10, 3, 4, 6}, {10, 1, 4, 6},
		{10, 5, 1, 3}, {10, 9, 5, 4}, {10, 8, 9, 1}, {10, 9, 8, 1}, {most + 1, 0, 1, most}, {most + 1, most, 0, most},
		{api.MaxCells, api.MaxCells - 1, api.MaxCells - 1 - most, most}, {api.MaxCells, 0, api.MaxCells - 1, 1}, {api.MaxCells, 0, api.MaxCells - most, most},
	} {
		m, code := cells.New(c.cells)
		if code != api.Fine {
			t.Fatalf("cells.New(%d): %d", c.cells, code)
		}
		e, code := epoch.New(m, c.at, c.pins, c.workers)
		if e == nil || code != api.Fine {
			t.Fatalf("of %d cells New(%d, %d, %d) = %v, %d, want an epoch and Fine", c.cells, c.at, c.pins, c.workers, e, code)
		}
		m.Lay(c.at, 6)
		m.Lay(c.pins, pin(4))
		m.Lay(c.pins+c.workers-1, pin(5))
		wantNow(t, e, 6)
		wantPinned(t, e, c.workers-1, 5, true)
		if c.workers > 1 {
			wantPinned(t, e, 0, 4, true)
		}
		wantPinned(t, e, c.workers, 0, false)
		wantPinned(t, e, -1, 0, false)
		if m.Count() != 0 {
			t.Errorf("%d accesses", m.Count())
		}
	}
}

// P9.1, P0.3
func TestNewWhereItMayNotBe(t *testing.T) {
	m := made(t, 10, 77)
	wrong := []struct{ at, pins, workers int }{
		{0, 1, 0}, {0, 1, -1}, {0, 1, -2}, {0, 1, 10}, {0, 1, api.MaxWorkers}, {0, 1, api.MaxWorkers + 1},
		{-1, 1, 3}, {-1, 0, 1}, {10, 1, 3}, {11, 1, 3}, {10, 0, 10}, {0, -1, 1}, {3, -1, 2}, {0, -1, 3}, {9, -2, 3}, {0, 8, 3}, {0, 9, 2}, {0, 10, 1}, {0, 11, 1}, {0, 10, 0},
		{1, 1, 1}, {1, 1, 3}, {2, 1, 3}, {3, 1, 3}, {0, 0, 10}, {9, 0, 10}, {5, 0, 10}, {9, 9, 1}, {0, 0, 1}, {9, 7, 3},
	}
	for _, n := range extremes {
		wrong = append(wrong, []struct{ at, pins, workers int }{
			{n, 1, 3}, {0, n, 3}, {0, n, 1}, {0, n, api.MaxWorkers}, {0, 1, n}, {n, n, 3}, {n, n, n}, {0, n, n}, {n, 1, n}, {0, n, -n}, {0, 1 - n, n}, {0, 1 + n, -n}, {0, 2 - n, n},
		}...)
	}
	words := held(m)
	for _, c := range wrong {
		if e, code := epoch.New(m, c.at, c.pins, c.workers); e != nil || code != api.ErrArg {
			t.Errorf("New(%d, %d, %d) = %v, %d, want nil, ErrArg", c.at, c.pins, c.workers, e, code)
		}
	}
	wantUntouched(t, m, 0, words)
}

// P9.1: there are cells enough, but more workers than there may be.
func TestNewOfMoreThanMaxWorkers(t *testing.T) {
	m := made(t, 1000, 0)
	for _, workers := range []int{api.MaxWorkers + 1, api.MaxWorkers + 2, 2 * api.MaxWorkers, 999} {
		if e, code := epoch.New(m, 0, 1, workers); e != nil || code != api.ErrArg {
			t.Errorf("New of %d workers = %v, %d, want nil, ErrArg", workers, e, code)
		}
	}
	over(t, m, 0, 1, api.MaxWorkers)
}

// P9.1: as the cells are, whoever turns them.
func TestNow(t *testing.T) {
	m := made(t, 5, 99)
	e := over(t, m, 3, 0, 2)
	wantNow(t, e, 99)
	for _, c := range epochs {
		m.Lay(3, c.word)
		wantNow(t, e, c.want)
		wantUntouched(t, m, 0, []uint64{99, 99, 99, c.word, 99})
	}
	m.Store(3, 5)
	wantNow(t, e, 5)
}

// P9.1: what GetPin tells of the announcement, whatever word it is.
func TestPinned(t *testing.T) {
	m := made(t, 6, math.MaxUint64)
	e := over(t, m, 0, 2, 3)
	for _, c := range []struct {
		word uint64
		at   int
		is   bool
	}{
		{0, 0, false}, {1, 0, true}, {2, 0, false}, {3, 1, true}, {4, 0, false}, {11, 5, true}, {1 << 32, 0, false}, {1<<32 + 1, 1 << 31, true},
		{pin(api.MaxEpoch - 1), api.MaxEpoch - 1, true}, {pin(api.MaxEpoch), api.MaxEpoch, true}, {1<<63 - 2, 0, false},
		{1 << 63, 0, false}, {1<<63 + 1, 1 << 62, true}, {math.MaxUint64 - 1, 0, false}, {math.MaxUint64, math.MaxInt, true},
	} {
		for worker := range 3 {
			words := []uint64{9, 9, 8, 8, 8, 9}
			words[2+worker] = c.word
			for at, v := range words {
				m.Lay(at, v)
			}
			wantPinned(t, e, worker, c.at, c.is)
			for other := range 3 {
				if other != worker {
					wantPinned(t, e, other, 0, false)
				}
			}
			wantUntouched(t, m, 0, words)
		}
	}
}

// P9.1, P9.2, P0.3: nothing is made, and no access is done, though the cells beside the announcements look like some.
func TestNoSuchWorker(t *testing.T) {
	for _, workers := range []int{1, 2, 5, api.MaxWorkers} {
		m := made(t, api.MaxWorkers+10, pin(7))
		words := held(m)
		for _, c := range []struct{ at, pins int }{{2, 3}, {0, 4}, {workers + 3, 3}} {
			e := over(t, m, c.at, c.pins, workers)
			for _, worker := range append([]int{-3, -2, -1, workers, workers + 1, api.MaxWorkers, api.MaxWorkers + 1, workers - 1 - 1<<32, -c.pins, math.MaxInt - c.pins, math.MaxInt - c.pins + 1}, extremes...) {
				wantPinned(t, e, worker, 0, false)
				if n, code := e.Enter(worker); n != nil || code != api.ErrArg {
					t.Errorf("of %d workers Enter(%d) = %v, %d, want nil, ErrArg", workers, worker, n, code)
				}
				if l, code := e.Leave(worker); l != nil || code != api.ErrArg {
					t.Errorf("of %d workers Leave(%d) = %v, %d, want nil, ErrArg", workers, worker, l, code)
				}
			}
			for _, worker := range []int{0, workers - 1} {
				wantPinned(t, e, worker, 7, true)
				entering(t, m, e, worker)
				leaving(t, m, e, worker)
			}
		}
		wantUntouched(t, m, 0, words)
	}
}

// P9.2: the accesses, one a step, in their order; whatever was announced ahead.
func TestEnterAccesses(t *testing.T) {
	for _, c := range epochs {
		for _, was := range []uint64{0, 1, 2, 3, pin(c.want), 1 << 63, math.MaxUint64} {
			m, e := begun(t, c.word, 8, was, 6)
			n := entering(t, m, e, 1)
			wantSteps(t, m, n, false, load(0, c.word))
			wantPinnedWord(t, e, 1, was)
			wantSteps(t, m, n, true, store(2, was, pin(c.want)))
			wantEpoch(t, n, c.want)
			wantPinned(t, e, 1, c.want, true)
			wantHeld(t, m, c.word, 8, pin(c.want), 6)
		}
	}
}

// wantPinnedWord: what is told of that worker is what that word announces.
func wantPinnedWord(t *testing.T, e *epoch.Epoch, worker int, w uint64) {
	t.Helper()
	if w%2 == 0 {
		wantPinned(t, e, worker, 0, false)
	} else {
		wantPinned(t, e, worker, int(w>>1), true)
	}
}

// P9.2: each worker, of one and of MaxWorkers, and the last cell; elsewhere in the memory too.
func TestEnterAndLeaveOfEachWorker(t *testing.T) {
	const most = api.MaxWorkers
	for _, c := range []struct{ cells, at, pins, workers int }{
		{2, 0, 1, 1}, {2, 1, 0, 1}, {9, 7, 2, 4}, {9, 1, 2, 4}, {9, 0, 5, 4}, {most + 1, 0, 1, most}, {most + 1, most, 0, most}, {most + 5, 1, 3, most},
	} {
		m := made(t, c.cells, 50)
		e := over(t, m, c.at, c.pins, c.workers)
		words := held(m)
		for worker := range c.workers {
			n := entering(t, m, e, worker)
			wantSteps(t, m, n, true, load(c.at, 50), store(c.pins+worker, 50, 101))
			wantEpoch(t, n, 50)
			words[c.pins+worker] = 101
			wantHeld(t, m, words...)
		}
		for worker := range c.workers {
			wantPinned(t, e, worker, 50, true)
			wantSteps(t, m, leaving(t, m, e, worker), true, store(c.pins+worker, 101, 0))
			wantPinned(t, e, worker, 0, false)
			words[c.pins+worker] = 0
			wantHeld(t, m, words...)
		}
	}
}

// P9.2: one access, whatever was announced ahead.
func TestLeaveAccesses(t *testing.T) {
	for _, was := range []uint64{0, 1, 2, 3, 11, pin(api.MaxEpoch), 1 << 63, math.MaxUint64} {
		m, e := begun(t, 5, 8, was, 7)
		l := leaving(t, m, e, 1)
		wantPinnedWord(t, e, 1, was)
		wantSteps(t, m, l, true, store(2, was, 0))
		wantPinned(t, e, 1, 0, false)
		wantHeld(t, m, 5, 8, 0, 7)
	}
}

// P9.2: the epoch that was loaded is announced, though it has gone on since; and Epoch is that one, whatever comes behind.
func TestEnterGoesByWhatItLoaded(t *testing.T) {
	m, e := begun(t, 4, 0, 0)
	n := entering(t, m, e, 1)
	wantSteps(t, m, n, false, load(0, 4))
	m.Lay(0, 9)
	m.Lay(2, 33)
	wantSteps(t, m, n, true, store(2, 33, pin(4)))
	wantEpoch(t, n, 4)
	m.Lay(2, 0)
	m.Lay(0, 20)
	wantDone(t, m, n)
	wantEpoch(t, n, 4)
	wantNow(t, e, 20)
	again := entering(t, m, e, 1)
	m.Lay(0, 21)
	wantSteps(t, m, again, true, load(0, 21), store(2, 0, pin(21)))
	wantEpoch(t, again, 21)
	wantEpoch(t, n, 4)
}

// P9.2: with nobody pinned: a Load of the epoch, one of each announcement from 0 on, the exchange.
func TestAdvanceOfEachNumberOfWorkers(t *testing.T) {
	for workers := 1; workers <= api.MaxWorkers; workers++ {
		for _, pins := range []int{2, 4} {
			m := made(t, workers+6, 60)
			at := 3 * (pins / 4) // next to the announcements, or further ahead of them
			e := over(t, m, at, pins, workers)
			words := held(m)
			want := []cells.Access{load(at, 60)}
			for worker := range workers {
				want = append(want, load(pins+worker, 60))
			}
			a := advancing(t, m, e)
			wantSteps(t, m, a, true, append(want, turn(at, 60, 61))...)
			wantWon(t, a, true)
			wantNow(t, e, 61)
			words[at] = 61
			wantHeld(t, m, words...)
		}
	}
}

// P9.2: the epoch's cell behind the announcements, next to them and at the end of the memory.
func TestAdvanceElsewhere(t *testing.T) {
	for _, at := range []int{4, 5, 0} {
		m := made(t, 6, 50)
		e := over(t, m, at, 1, 3)
		a := advancing(t, m, e)
		wantSteps(t, m, a, true, load(at, 50), load(1, 50), load(2, 50), load(3, 50), turn(at, 50, 51))
		wantWon(t, a, true)
		words := slices.Repeat([]uint64{50}, 6)
		words[at] = 51
		wantHeld(t, m, words...)
	}
}

// P9.2: from the word that was loaded to that word and 1, of any word; those that are pinned at what it counts as don't hold it up.
func TestAdvanceFromEachEpoch(t *testing.T) {
	for _, c := range epochs {
		for _, announced := range []uint64{0, pin(c.want), 2, 1 << 63} {
			m, e := begun(t, c.word, announced, 0, announced)
			a := advancing(t, m, e)
			wantSteps(t, m, a, true, load(0, c.word), load(1, announced), load(2, 0), load(3, announced), turn(0, c.word, c.word+1))
			wantWon(t, a, true)
			wantHeld(t, m, c.word+1, announced, 0, announced)
			next := 0 // behind the greatest word they go round
			if c.word < math.MaxUint64 {
				next = min(c.want+1, api.MaxEpoch)
			}
			wantNow(t, e, next)
		}
	}
}

// P9.2: one that is pinned at another epoch: done behind its announcement, wherever it stands.
func TestAdvanceIsHeldUp(t *testing.T) {
	for _, c := range epochs {
		for _, announced := range othersThan(c.want) {
			for worker := range 4 {
				words := []uint64{c.word, pin(c.want), 0, pin(c.want), 4}
				words[1+worker] = announced
				m, e := begun(t, words...)
				var want []cells.Access
				for at := range worker + 2 {
					want = append(want, load(at, words[at]))
				}
				a := advancing(t, m, e)
				wantSteps(t, m, a, true, want...)
				wantWon(t, a, false)
				wantHeld(t, m, words...)
			}
		}
	}
}

// othersThan is announcements of some that are pinned at another epoch than this one.
func othersThan(now int) []uint64 {
	var words []uint64
	for _, at := range []int{0, 1, now - 2, now - 1, now + 1, now + 2, api.MaxEpoch, api.MaxEpoch - 1, now ^ 1<<31, now ^ 1<<32, now ^ 1<<61} {
		if 0 <= at && at <= api.MaxEpoch && at != now {
			words = append(words, pin(at))
		}
	}
	return words
}

// P9.2, P2.3: an announcement of more than MaxEpoch, which no Enter makes, is at another epoch than any that there can be, as GetPin tells it.
func TestAdvanceAtAnAnnouncementBeyondMaxEpoch(t *testing.T) {
	for _, was := range []uint64{0, 5, api.MaxEpoch, api.MaxEpoch + 1, 1<<63 - 1, 1 << 63, math.MaxUint64} {
		for _, announced := range []uint64{1<<63 + 1, 1<<63 + 11, math.MaxUint64} {
			m, e := begun(t, was, 0, announced, 0)
			a := advancing(t, m, e)
			wantSteps(t, m, a, true, load(0, was), load(1, 0), load(2, announced))
			wantWon(t, a, false)
			wantHeld(t, m, was, 0, announced, 0)
		}
	}
}

// P9.2: the first that is pinned elsewhere ends it, those behind it are not looked at; with MaxWorkers too.
func TestAdvanceEndsAtTheFirst(t *testing.T) {
	m, e := begun(t, 5, pin(5), pin(4), pin(3), pin(5))
	wantSteps(t, m, advancing(t, m, e), true, load(0, 5), load(1, pin(5)), load(2, pin(4)))
	m, e = begun(t, append([]uint64{5}, slices.Repeat([]uint64{pin(5)}, api.MaxWorkers)...)...)
	for worker := range api.MaxWorkers {
		m.Lay(1+worker, pin(4))
		a := advancing(t, m, e)
		if n := through(t, m, a); n != worker+2 {
			t.Errorf("the worker %d is behind: %d accesses, want %d", worker, n, worker+2)
		}
		wantWon(t, a, false)
		m.Lay(1+worker, pin(5))
	}
	a := advancing(t, m, e)
	if n := through(t, m, a); n != api.MaxWorkers+2 {
		t.Errorf("nobody is behind: %d accesses, want %d", n, api.MaxWorkers+2)
	}
	wantWon(t, a, true)
	wantNow(t, e, 6)
}

// P9.2: an exchange that fails, since another one has gone on: done, not won; by the word, though both words count as MaxEpoch.
func TestAdvanceOvertaken(t *testing.T) {
	for _, c := range []struct{ was, is uint64 }{
		{0, 1}, {5, 6}, {5, 4}, {5, 5 + 1<<32}, {api.MaxEpoch, api.MaxEpoch + 1}, {api.MaxEpoch + 1, api.MaxEpoch}, {1 << 63, math.MaxUint64}, {math.MaxUint64, 0}, {0, 1 << 63},
	} {
		m, e := begun(t, c.was, 0, 0)
		a := advancing(t, m, e)
		wantSteps(t, m, a, false, load(0, c.was), load(1, 0), load(2, 0))
		m.Lay(0, c.is)
		wantSteps(t, m, a, true, missed(0, c.is))
		wantWon(t, a, false)
		wantHeld(t, m, c.is, 0, 0)
	}
}

// P9.2: what counts is what each Load has told, at its own step.
func TestAdvanceGoesByWhatItLoaded(t *testing.T) {
	m, e := begun(t, 5, 0, pin(4), pin(6))
	a := advancing(t, m, e)
	wantSteps(t, m, a, false, load(0, 5), load(1, 0))
	m.Lay(1, pin(3))
	m.Lay(2, pin(5))
	wantSteps(t, m, a, false, load(2, pin(5)))
	m.Lay(0, 6)
	m.Lay(2, pin(2))
	m.Lay(3, pin(5))
	wantSteps(t, m, a, false, load(3, pin(5)))
	m.Lay(3, pin(1))
	m.Lay(0, 5)
	wantSteps(t, m, a, true, turn(0, 5, 6))
	wantWon(t, a, true)
	b := advancing(t, m, e)
	wantSteps(t, m, b, true, load(0, 6), load(1, pin(3)))
	wantWon(t, b, false)
	wantWon(t, a, true)
}

// P9.2: an Advance doesn't look again at the epoch, when one is pinned at a newer one than it had loaded.
func TestAdvanceBehindTheOthers(t *testing.T) {
	m, e := begun(t, 5, 0, 0)
	a := advancing(t, m, e)
	wantSteps(t, m, a, false, load(0, 5))
	through(t, m, advancing(t, m, e))
	through(t, m, entering(t, m, e, 1))
	wantPinned(t, e, 1, 6, true)
	wantSteps(t, m, a, true, load(1, 0), load(2, pin(6)))
	wantWon(t, a, false)
	wantNow(t, e, 6)
}

// P9.1, P0.5: two over the same cells are one; two over other cells of the same memory share nothing.
func TestEpochsOverOneMemory(t *testing.T) {
	m := made(t, 8, 0)
	a, same, other := over(t, m, 0, 1, 3), over(t, m, 0, 1, 3), over(t, m, 7, 4, 3)
	through(t, m, advancing(t, m, a))
	through(t, m, entering(t, m, same, 2))
	wantNow(t, same, 1)
	wantNow(t, other, 0)
	wantPinned(t, a, 2, 1, true)
	wantPinned(t, other, 2, 0, false)
	for range 3 {
		through(t, m, advancing(t, m, other))
		through(t, m, advancing(t, m, a))
	}
	wantNow(t, a, 2)
	wantNow(t, other, 3)
	through(t, m, leaving(t, m, a, 2))
	through(t, m, entering(t, m, other, 0))
	wantHeld(t, m, 2, 0, 0, 0, pin(3), 0, 0, 3)
}
