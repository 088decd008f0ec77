package cells_test

import (
	"math"
	"slices"
	"testing"

	"rundale/api"
	"rundale/cells"
)

// extremes are numbers far out of all bounds: the ends of all numbers, and those that look small when their upper bits are lost.
var extremes = []int{math.MinInt, math.MinInt + 1, -1 << 62, -1 << 32, 1 << 32, 1<<32 + 1, 1 << 62, math.MaxInt - 1, math.MaxInt}

// someWords are words at the ends and in between, single bits among them.
var someWords = []uint64{0, 1, 2, 5, 1<<31 - 1, 1 << 32, 1<<63 - 1, 1 << 63, 0x0123456789abcdef, math.MaxUint64 - 1, math.MaxUint64}

// noCells are numbers that are no cell of a memory of n: one below and one beyond those that there are, and farther ones.
func noCells(n int) []int {
	return append([]int{-1, -2, -n, n, n + 1, api.MaxCells, -api.MaxCells}, extremes...)
}

// made is a memory of n cells.
func made(t *testing.T, n int) *cells.Cells {
	t.Helper()
	m, code := cells.New(n)
	if m == nil || code != api.Fine {
		t.Fatalf("New(%d) = %v, %d, want cells and Fine", n, m, code)
	}
	return m
}

// laid is a memory of cells that hold these words, with no access yet.
func laid(t *testing.T, words ...uint64) *cells.Cells {
	t.Helper()
	m := made(t, len(words))
	for at, v := range words {
		if code := m.Lay(at, v); code != api.Fine {
			t.Fatalf("Lay(%d, %d) = %d, want Fine", at, v, code)
		}
	}
	return m
}

// wantHeld holds all of m's cells against these words.
func wantHeld(t *testing.T, m *cells.Cells, words ...uint64) {
	t.Helper()
	var got []uint64
	for at := range m.Len() {
		got = append(got, m.Peek(at))
	}
	if !slices.Equal(got, words) {
		t.Errorf("the cells hold %v, want %v", got, words)
	}
}

// wantTold holds what m tells of its accesses against how many there were and the last one.
func wantTold(t *testing.T, m *cells.Cells, count int, last cells.Access) {
	t.Helper()
	if m.Count() != count || m.Last() != last {
		t.Errorf("Count, Last = %d, %+v, want %d, %+v", m.Count(), m.Last(), count, last)
	}
}

func wantLoad(t *testing.T, m *cells.Cells, at int, want uint64) {
	t.Helper()
	if got, code := m.Load(at); got != want || code != api.Fine {
		t.Errorf("Load(%d) = %d, %d, want %d, Fine", at, got, code, want)
	}
}

func wantStore(t *testing.T, m *cells.Cells, at int, v uint64) {
	t.Helper()
	if code := m.Store(at, v); code != api.Fine {
		t.Errorf("Store(%d, %d) = %d, want Fine", at, v, code)
	}
}

func wantCas(t *testing.T, m *cells.Cells, at int, old, new uint64, want bool) {
	t.Helper()
	if got, code := m.Cas(at, old, new); got != want || code != api.Fine {
		t.Errorf("Cas(%d, %d, %d) = %t, %d, want %t, Fine", at, old, new, got, code, want)
	}
}

func wantAdd(t *testing.T, m *cells.Cells, at int, by, want uint64) {
	t.Helper()
	if got, code := m.Add(at, by); got != want || code != api.Fine {
		t.Errorf("Add(%d, %d) = %d, %d, want %d, Fine", at, by, got, code, want)
	}
}

// wantRefused makes each call at what is no cell of m.
func wantRefused(t *testing.T, m *cells.Cells, at int) {
	t.Helper()
	if v, code := m.Load(at); v != 0 || code != api.ErrArg {
		t.Errorf("Load(%d) = %d, %d, want 0, ErrArg", at, v, code)
	}
	for _, v := range []uint64{0, 7, math.MaxUint64} {
		if code := m.Store(at, v); code != api.ErrArg {
			t.Errorf("Store(%d, %d) = %d, want ErrArg", at, v, code)
		}
		if ok, code := m.Cas(at, 0, v); ok || code != api.ErrArg {
			t.Errorf("Cas(%d, 0, %d) = %t, %d, want false, ErrArg", at, v, ok, code)
		}
		if was, code := m.Add(at, v); was != 0 || code != api.ErrArg {
			t.Errorf("Add(%d, %d) = %d, %d, want 0, ErrArg", at, v, was, code)
		}
		if code := m.Lay(at, v); code != api.ErrArg {
			t.Errorf("Lay(%d, %d) = %d, want ErrArg", at, v, code)
		}
		if got := m.Peek(at); got != 0 {
			t.Errorf("Peek(%d) = %d, want 0", at, got)
		}
	}
}

// P5.1, P5.2
func TestExample(t *testing.T) {
	m := made(t, 2)
	wantAdd(t, m, 1, 5, 0)
	wantAdd(t, m, 1, 3, 5)
	wantTold(t, m, 2, cells.Access{Kind: cells.Add, At: 1, Old: 5, New: 8, Ok: true})
	wantHeld(t, m, 0, 8)
}

// P5.2
func TestNumbersOfTheChapter(t *testing.T) {
	if got := [4]int{cells.Load, cells.Store, cells.Cas, cells.Add}; got != [4]int{1, 2, 3, 4} {
		t.Errorf("Load, Store, Cas, Add = %v", got)
	}
}

// P5.1
func TestNewIsAllZero(t *testing.T) {
	for _, n := range []int{1, 2, 47, 1000, api.MaxCells - 1, api.MaxCells} {
		m := made(t, n)
		if m.Len() != n {
			t.Errorf("Len = %d, want %d", m.Len(), n)
		}
		for at := range n {
			if v := m.Peek(at); v != 0 {
				t.Fatalf("cell %d of a new memory of %d holds %d", at, n, v)
			}
		}
		wantTold(t, m, 0, cells.Access{})
	}
}

// P5.1
func TestNewOfWhatMayNotBe(t *testing.T) {
	for _, n := range append([]int{0, -1, -2, -api.MaxCells, api.MaxCells + 1, api.MaxCells + 2, 2 * api.MaxCells}, extremes...) {
		if m, code := cells.New(n); m != nil || code != api.ErrArg {
			t.Errorf("New(%d) = %v, %d, want nil, ErrArg", n, m, code)
		}
	}
}

// P5.1
func TestLoad(t *testing.T) {
	m := laid(t, someWords...)
	for at, v := range someWords {
		wantLoad(t, m, at, v)
		wantTold(t, m, at+1, cells.Access{Kind: cells.Load, At: at, Old: v, New: v, Ok: true})
	}
	wantHeld(t, m, someWords...)
}

// P5.1, P5.2
func TestStore(t *testing.T) {
	for _, was := range someWords {
		for _, v := range someWords {
			m := laid(t, 3, was, 4)
			wantStore(t, m, 1, v)
			wantHeld(t, m, 3, v, 4)
			wantTold(t, m, 1, cells.Access{Kind: cells.Store, At: 1, Old: was, New: v, Ok: true})
		}
	}
}

// P5.1, P5.2
func TestCas(t *testing.T) {
	for _, was := range someWords {
		for _, old := range someWords {
			for _, v := range someWords {
				behind := was
				if was == old {
					behind = v
				}
				m := laid(t, 3, was, 4)
				wantCas(t, m, 1, old, v, was == old)
				wantHeld(t, m, 3, behind, 4)
				wantTold(t, m, 1, cells.Access{Kind: cells.Cas, At: 1, Old: was, New: behind, Ok: was == old})
			}
		}
	}
}

// P5.1, P5.2: old and new are the same: it exchanges where the cell holds them, and not where it doesn't.
func TestCasToTheSame(t *testing.T) {
	m := laid(t, 8)
	wantCas(t, m, 0, 8, 8, true)
	wantTold(t, m, 1, cells.Access{Kind: cells.Cas, At: 0, Old: 8, New: 8, Ok: true})
	wantCas(t, m, 0, 9, 9, false)
	wantTold(t, m, 2, cells.Access{Kind: cells.Cas, At: 0, Old: 8, New: 8, Ok: false})
	wantCas(t, m, 0, 9, 8, false)
	wantTold(t, m, 3, cells.Access{Kind: cells.Cas, At: 0, Old: 8, New: 8, Ok: false})
	wantHeld(t, m, 8)
}

// P5.1: of two that want the same exchange, the first alone has it.
func TestCasOnce(t *testing.T) {
	m := made(t, 1)
	wantCas(t, m, 0, 0, 6, true)
	wantCas(t, m, 0, 0, 6, false)
	wantCas(t, m, 0, 6, 0, true)
	wantCas(t, m, 0, 0, 6, true)
	wantHeld(t, m, 6)
}

// P5.1, P5.2
func TestAdd(t *testing.T) {
	for _, was := range someWords {
		for _, by := range someWords {
			m := laid(t, 3, was, 4)
			wantAdd(t, m, 1, by, was)
			wantHeld(t, m, 3, was+by, 4)
			wantTold(t, m, 1, cells.Access{Kind: cells.Add, At: 1, Old: was, New: was + by, Ok: true})
		}
	}
}

// P5.1: the cells beside one that goes round see nothing of it.
func TestAddGoesRound(t *testing.T) {
	m := laid(t, 3, math.MaxUint64, 4)
	wantAdd(t, m, 1, 2, math.MaxUint64)
	wantHeld(t, m, 3, 1, 4)
	wantAdd(t, m, 1, math.MaxUint64, 1)
	wantHeld(t, m, 3, 0, 4)
	wantAdd(t, m, 1, math.MaxUint64, 0)
	wantHeld(t, m, 3, math.MaxUint64, 4)
	wantAdd(t, m, 1, 1<<63, math.MaxUint64)
	wantHeld(t, m, 3, 1<<63-1, 4)
}

// P5.1: each of the accesses at the first and at the last cell, of the least memory and of the greatest.
func TestFirstAndLastCell(t *testing.T) {
	for _, n := range []int{1, 2, 3, api.MaxCells} {
		m := made(t, n)
		count := 0
		for _, at := range []int{0, n - 1} {
			was := m.Peek(at)
			wantStore(t, m, at, 5)
			wantTold(t, m, count+1, cells.Access{Kind: cells.Store, At: at, Old: was, New: 5, Ok: true})
			wantAdd(t, m, at, 2, 5)
			wantTold(t, m, count+2, cells.Access{Kind: cells.Add, At: at, Old: 5, New: 7, Ok: true})
			wantCas(t, m, at, 7, 9, true)
			wantTold(t, m, count+3, cells.Access{Kind: cells.Cas, At: at, Old: 7, New: 9, Ok: true})
			wantLoad(t, m, at, 9)
			wantTold(t, m, count+4, cells.Access{Kind: cells.Load, At: at, Old: 9, New: 9, Ok: true})
			count += 4
		}
	}
}

// P5.1, P5.2
func TestNoCell(t *testing.T) {
	for _, n := range []int{1, 2, 3, 40} {
		words := make([]uint64, n)
		for at := range words {
			words[at] = uint64(at + 1)
		}
		m := laid(t, words...)
		for _, at := range noCells(n) {
			wantRefused(t, m, at)
		}
		wantHeld(t, m, words...)
		wantTold(t, m, 0, cells.Access{})
		wantAdd(t, m, n-1, 1, uint64(n))
		for _, at := range noCells(n) {
			wantRefused(t, m, at)
		}
		wantTold(t, m, 1, cells.Access{Kind: cells.Add, At: n - 1, Old: uint64(n), New: uint64(n + 1), Ok: true})
		words[n-1]++
		wantHeld(t, m, words...)
	}
}

// P5.1: a memory that is as great as can be has no cell behind its last one.
func TestNoCellOfTheGreatest(t *testing.T) {
	m := made(t, api.MaxCells)
	for _, at := range noCells(api.MaxCells) {
		wantRefused(t, m, at)
	}
	for at := range m.Len() {
		if v := m.Peek(at); v != 0 {
			t.Fatalf("cell %d holds %d", at, v)
		}
	}
	wantTold(t, m, 0, cells.Access{})
}

// P5.2: neither is counted nor told, ahead of the first access and behind one of each kind.
func TestPeekAndLayAreNoAccesses(t *testing.T) {
	m := made(t, 3)
	look := func(count int, last cells.Access) {
		t.Helper()
		wantTold(t, m, count, last)
		for _, v := range someWords {
			if code := m.Lay(2, v); code != api.Fine || m.Peek(2) != v {
				t.Errorf("Lay(2, %d) = %d, and Peek = %d", v, code, m.Peek(2))
			}
		}
		for _, at := range noCells(3) {
			wantRefused(t, m, at)
		}
		wantTold(t, m, count, last)
	}
	look(0, cells.Access{})
	wantLoad(t, m, 1, 0)
	look(1, cells.Access{Kind: cells.Load, At: 1, Ok: true})
	wantStore(t, m, 0, 6)
	look(2, cells.Access{Kind: cells.Store, At: 0, Old: 0, New: 6, Ok: true})
	wantCas(t, m, 0, 6, 7, true)
	look(3, cells.Access{Kind: cells.Cas, At: 0, Old: 6, New: 7, Ok: true})
	wantCas(t, m, 0, 6, 8, false)
	look(4, cells.Access{Kind: cells.Cas, At: 0, Old: 7, New: 7})
	wantAdd(t, m, 0, 3, 7)
	look(5, cells.Access{Kind: cells.Add, At: 0, Old: 7, New: 10, Ok: true})
	wantHeld(t, m, 10, 0, math.MaxUint64)
}

// P5.2: what an access told stays so, though its cell is laid anew; and the next one tells what was laid.
func TestLastBehindALayOfItsCell(t *testing.T) {
	m := made(t, 1)
	wantStore(t, m, 0, 5)
	if code := m.Lay(0, 9); code != api.Fine {
		t.Errorf("Lay = %d, want Fine", code)
	}
	wantTold(t, m, 1, cells.Access{Kind: cells.Store, At: 0, Old: 0, New: 5, Ok: true})
	wantAdd(t, m, 0, 1, 9)
	wantTold(t, m, 2, cells.Access{Kind: cells.Add, At: 0, Old: 9, New: 10, Ok: true})
}

// P5.2
func TestLastIsACopy(t *testing.T) {
	m := made(t, 1)
	wantStore(t, m, 0, 5)
	ahead := m.Last()
	mine := m.Last()
	mine.Kind, mine.New = 9, 9
	wantTold(t, m, 1, ahead)
	wantLoad(t, m, 0, 5)
	if want := (cells.Access{Kind: cells.Store, At: 0, Old: 0, New: 5, Ok: true}); ahead != want {
		t.Errorf("what Last answered turned to %+v, want %+v", ahead, want)
	}
}

// P5.2
func TestCountOfMany(t *testing.T) {
	m := made(t, 2)
	const many = 100000
	for i := range many {
		wantAdd(t, m, i%2, 1, uint64(i/2))
	}
	wantTold(t, m, many, cells.Access{Kind: cells.Add, At: 1, Old: many/2 - 1, New: many / 2, Ok: true})
	wantHeld(t, m, many/2, many/2)
}

// P5.3: a long run of accesses over all cells, each held against a plain list, and each cell against a memory that has seen its own accesses alone.
func TestOneCellIsNothingToAnother(t *testing.T) {
	const n = 7
	m := made(t, n)
	want := make([]uint64, n)
	var alone []*cells.Cells
	for range n {
		alone = append(alone, made(t, 1))
	}
	for i := range 3000 {
		at := i * i % 11 % n
		v := someWords[i%len(someWords)]
		was := want[at]
		for _, x := range []struct {
			m  *cells.Cells
			at int
		}{{m, at}, {alone[at], 0}} {
			switch i % 5 {
			case 0:
				wantLoad(t, x.m, x.at, was)
			case 1:
				wantStore(t, x.m, x.at, v)
				want[at] = v
			case 2:
				wantCas(t, x.m, x.at, was, v, true)
				want[at] = v
			case 3:
				wantCas(t, x.m, x.at, was+1, v, false)
			case 4:
				wantAdd(t, x.m, x.at, v, was)
				want[at] = was + v
			}
		}
		wantHeld(t, m, want...)
		wantHeld(t, alone[at], want[at])
		if told, own := m.Last(), alone[at].Last(); told != (cells.Access{Kind: own.Kind, At: at, Old: own.Old, New: own.New, Ok: own.Ok}) {
			t.Errorf("Last = %+v, of the cell alone %+v", told, own)
		}
		if m.Count() != i+1 {
			t.Errorf("Count = %d, want %d", m.Count(), i+1)
		}
	}
}

// P5.3, P0.5: a Lay at one cell turns no other one, and two memories share nothing.
func TestMemoriesShareNothing(t *testing.T) {
	a, b := made(t, 3), made(t, 3)
	for at := range 3 {
		wantStore(t, a, at, uint64(at)+1)
	}
	wantHeld(t, b, 0, 0, 0)
	wantTold(t, b, 0, cells.Access{})
	if code := b.Lay(1, 9); code != api.Fine {
		t.Errorf("Lay = %d, want Fine", code)
	}
	wantHeld(t, a, 1, 2, 3)
	wantHeld(t, b, 0, 9, 0)
	wantTold(t, a, 3, cells.Access{Kind: cells.Store, At: 2, Old: 0, New: 3, Ok: true})
	wantTold(t, b, 0, cells.Access{})
}
