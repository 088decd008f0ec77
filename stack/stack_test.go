package stack_test

import (
	"math"
	"slices"
	"testing"

	"rundale/api"
	"rundale/cells"
	"rundale/stack"
	"rundale/word"
)

// extremes are numbers far out of all bounds: the ends of all numbers, and those that look small when their upper bits are lost.
var extremes = []int{math.MinInt, math.MinInt + 1, -1 << 62, -1 << 32, 1 << 32, 1<<32 + 1, 1 << 62, math.MaxInt - 1, math.MaxInt}

// machine is what a Push and a Pop have in common.
type machine interface {
	Step() bool
	Done() bool
}

// made is a memory of n cells, each of which holds v.
func made(t *testing.T, n int, v uint64) *cells.Cells {
	t.Helper()
	m, code := cells.New(n)
	if code != api.Fine {
		t.Fatalf("cells.New(%d): %d", n, code)
	}
	for at := range n {
		m.Lay(at, v)
	}
	return m
}

// over is a stack over m's cells.
func over(t *testing.T, m *cells.Cells, head, links, n int) *stack.Stack {
	t.Helper()
	s, code := stack.New(m, head, links, n)
	if s == nil || code != api.Fine {
		t.Fatalf("New(%d, %d, %d) = %v, %d, want a stack and Fine", head, links, n, s, code)
	}
	return s
}

// filled is a stack of all n items, its head in the cell 0 and the link of i in the cell 1+i.
func filled(t *testing.T, n int) (*cells.Cells, *stack.Stack) {
	t.Helper()
	m := made(t, n+1, 0)
	s := over(t, m, 0, 1, n)
	s.Fill()
	return m, s
}

// laid is a stack over such cells that hold these words, the head first.
func laid(t *testing.T, words ...uint64) (*cells.Cells, *stack.Stack) {
	t.Helper()
	m := made(t, len(words), 0)
	for at, v := range words {
		m.Lay(at, v)
	}
	return m, over(t, m, 0, 1, len(words)-1)
}

// pushing is a Push that is Fine, and as it is made does no access.
func pushing(t *testing.T, m *cells.Cells, s *stack.Stack, l ...int) *stack.Push {
	t.Helper()
	count := m.Count()
	p, code := s.Push(l...)
	if p == nil || code != api.Fine {
		t.Fatalf("Push(%v) = %v, %d, want a machine and Fine", l, p, code)
	}
	if m.Count() != count {
		t.Errorf("Push(%v) did %d accesses as it was made", l, m.Count()-count)
	}
	return p
}

// popping is a Pop, which as it is made does no access.
func popping(t *testing.T, m *cells.Cells, s *stack.Stack, most int) *stack.Pop {
	t.Helper()
	count := m.Count()
	p := s.Pop(most)
	if p == nil {
		t.Fatalf("Pop(%d) is nil", most)
	}
	if m.Count() != count || p.Done() || len(p.Got()) > 0 {
		t.Errorf("Pop(%d), as it was made: %d accesses, Done %t, Got %v", most, m.Count()-count, p.Done(), p.Got())
	}
	return p
}

// wantSteps goes on with x, and holds each access against the one that is to come; is the last one the end, x is to be done behind it and not ahead.
func wantSteps(t *testing.T, m *cells.Cells, x machine, end bool, want ...cells.Access) {
	t.Helper()
	for i, a := range want {
		wantGoingOn(t, x)
		count := m.Count()
		if !x.Step() {
			t.Fatalf("step %d of %d: false", i, len(want))
		}
		if m.Count() != count+1 || m.Last() != a {
			t.Fatalf("step %d of %d: %d accesses, the last %+v, want %+v", i, len(want), m.Count()-count, m.Last(), a)
		}
	}
	if end {
		wantDone(t, m, x)
	} else {
		wantGoingOn(t, x)
	}
}

// wantGoingOn: x is not done, and nothing has come of it yet.
func wantGoingOn(t *testing.T, x machine) {
	t.Helper()
	if x.Done() {
		t.Fatal("it is done too early")
	}
	if p, ok := x.(*stack.Pop); ok && len(p.Got()) > 0 {
		t.Errorf("Got = %v ahead of the end", p.Got())
	}
}

// wantDone: x is done, and stays as it is however often it is to go on.
func wantDone(t *testing.T, m *cells.Cells, x machine) {
	t.Helper()
	if !x.Done() {
		t.Fatal("it is not done")
	}
	count, words := m.Count(), held(m)
	for range 3 {
		if x.Step() || !x.Done() || m.Count() != count || !slices.Equal(held(m), words) {
			t.Fatalf("a Step behind the end: Done %t, %d accesses", x.Done(), m.Count()-count)
		}
	}
}

// through does all of x's accesses that are left: how many.
func through(t *testing.T, m *cells.Cells, x machine) int {
	t.Helper()
	n := 0
	for ; !x.Done() && n < 100000; n++ {
		count := m.Count()
		if !x.Step() || m.Count() != count+1 {
			t.Fatalf("step %d: %d accesses", n, m.Count()-count)
		}
	}
	wantDone(t, m, x)
	return n
}

// held is what all cells hold.
func held(m *cells.Cells) []uint64 {
	var words []uint64
	for at := range m.Len() {
		words = append(words, m.Peek(at))
	}
	return words
}

func wantHeld(t *testing.T, m *cells.Cells, words ...uint64) {
	t.Helper()
	if got := held(m); !slices.Equal(got, words) {
		t.Errorf("the cells hold %v, want %v", got, words)
	}
}

func wantList(t *testing.T, s *stack.Stack, want ...int) {
	t.Helper()
	if got := s.List(); !slices.Equal(got, want) {
		t.Errorf("List = %v, want %v", got, want)
	}
}

func wantGot(t *testing.T, p *stack.Pop, want ...int) {
	t.Helper()
	if got := p.Got(); !slices.Equal(got, want) {
		t.Errorf("Got = %v, want %v", got, want)
	}
}

// head is a head's word, by the document's bits.
func head(index, tag int) uint64 { return uint64(tag)<<32 | uint64(index+1) }

// upTo is 0, 1, .. n less 1.
func upTo(n int) []int {
	var l []int
	for i := range n {
		l = append(l, i)
	}
	return l
}

func load(at int, v uint64) cells.Access {
	return cells.Access{Kind: cells.Load, At: at, Old: v, New: v, Ok: true}
}

func store(at int, was, v uint64) cells.Access {
	return cells.Access{Kind: cells.Store, At: at, Old: was, New: v, Ok: true}
}

func turn(at int, was, v uint64) cells.Access {
	return cells.Access{Kind: cells.Cas, At: at, Old: was, New: v, Ok: true}
}

// missed is an exchange that fails, for the cell holds v.
func missed(at int, v uint64) cells.Access {
	return cells.Access{Kind: cells.Cas, At: at, Old: v, New: v}
}

// P6.1, P6.3
func TestExample(t *testing.T) {
	m, s := filled(t, 3)
	wantList(t, s, 0, 1, 2)
	p := popping(t, m, s, 2)
	if n := through(t, m, p); n != 4 {
		t.Errorf("Pop(2) is done behind %d accesses, want 4", n)
	}
	wantGot(t, p, 0, 1)
	wantList(t, s, 2)
}

// P6.1
func TestNewWhereItMayBe(t *testing.T) {
	for _, c := range []struct{ cells, head, links, n int }{
		{2, 0, 1, 1}, {2, 1, 0, 1}, {10, 0, 1, 9}, {10, 9, 0, 9}, {10, 4, 1, 3}, {10, 0, 1, 3}, {10, 0, 9, 1}, {10, 9, 2, 1},
		{10, 5, 6, 4}, {api.MaxChunks + 1, 0, 1, api.MaxChunks}, {api.MaxChunks + 1, api.MaxChunks, 0, api.MaxChunks},
		{api.MaxCells, api.MaxCells - 1, api.MaxCells - 1 - api.MaxChunks, api.MaxChunks}, {api.MaxCells, 0, api.MaxCells - 1, 1},
	} {
		m := made(t, c.cells, 0)
		s := over(t, m, c.head, c.links, c.n)
		wantList(t, s)
		s.Fill()
		wantList(t, s, upTo(c.n)...)
		if m.Count() != 0 {
			t.Errorf("%d accesses", m.Count())
		}
	}
}

// P6.1
func TestNewWhereItMayNotBe(t *testing.T) {
	m := made(t, 10, 77)
	wrong := []struct{ head, links, n int }{
		{0, 1, 0}, {0, 1, -1}, {0, 1, 10}, {0, 1, api.MaxChunks}, {0, 1, api.MaxChunks + 1},
		{-1, 1, 3}, {10, 1, 3}, {11, 1, 3}, {0, -1, 1}, {3, -1, 2}, {0, -1, 3}, {0, 8, 3}, {0, 9, 2}, {0, 10, 1}, {0, 11, 1},
		{1, 1, 1}, {1, 1, 3}, {2, 1, 3}, {3, 1, 3}, {0, 0, 10}, {9, 0, 10}, {9, 9, 1}, {0, 0, 1},
	}
	for _, n := range extremes {
		wrong = append(wrong, []struct{ head, links, n int }{
			{n, 1, 3}, {0, n, 3}, {0, n, 1}, {0, 1, n}, {n, n, 3}, {n, n, n}, {0, n, n}, {n, 1, n}, {0, n, -n}, {0, 1 - n, n}, {0, 1 + n, -n},
		}...)
	}
	words := held(m)
	for _, c := range wrong {
		if s, code := stack.New(m, c.head, c.links, c.n); s != nil || code != api.ErrArg {
			t.Errorf("New(%d, %d, %d) = %v, %d, want nil, ErrArg", c.head, c.links, c.n, s, code)
		}
	}
	wantHeld(t, m, words...)
	if m.Count() != 0 {
		t.Errorf("%d accesses", m.Count())
	}
}

// P6.1: there are cells enough, but more items than there may be.
func TestNewOfMoreThanMaxChunks(t *testing.T) {
	m := made(t, api.MaxChunks+10, 0)
	if s, code := stack.New(m, 0, 1, api.MaxChunks+1); s != nil || code != api.ErrArg {
		t.Errorf("New of one beyond MaxChunks = %v, %d, want nil, ErrArg", s, code)
	}
	over(t, m, 0, 1, api.MaxChunks)
}

// P6.1: a new stack is what its cells are; it turns none of them.
func TestNewTakesTheCellsAsTheyAre(t *testing.T) {
	m := made(t, 6, 0)
	words := []uint64{9, 3, 0, 2, head(2, 7), 8}
	for at, v := range words {
		m.Lay(at, v)
	}
	s := over(t, m, 4, 1, 3)
	wantHeld(t, m, words...)
	wantList(t, s, 2, 1)
	wantHeld(t, m, words...)
	if m.Count() != 0 {
		t.Errorf("%d accesses", m.Count())
	}
}

// P6.1
func TestFill(t *testing.T) {
	for _, n := range []int{1, 2, 3, 9, api.MaxChunks - 1, api.MaxChunks} {
		for _, headFirst := range []bool{true, false} {
			const other = math.MaxUint64 - 5
			m := made(t, n+4, other)
			want := held(m)
			at, links := 1, 3
			if !headFirst {
				at, links = n+2, 1
			}
			s := over(t, m, at, links, n)
			s.Fill()
			want[at] = 1
			for i := range n {
				want[links+i] = uint64(i + 2)
			}
			want[links+n-1] = 0
			wantHeld(t, m, want...)
			wantList(t, s, upTo(n)...)
			if m.Count() != 0 {
				t.Errorf("Fill and List did %d accesses", m.Count())
			}
		}
	}
}

// P6.1: also of a stack that was turned; its Tag is 0 then.
func TestFillAgain(t *testing.T) {
	m, s := filled(t, 4)
	through(t, m, popping(t, m, s, 1))
	through(t, m, popping(t, m, s, 2))
	through(t, m, pushing(t, m, s, 2, 0))
	wantList(t, s, 2, 0, 3)
	count := m.Count()
	s.Fill()
	wantHeld(t, m, 1, 2, 3, 4, 0)
	wantList(t, s, 0, 1, 2, 3)
	if m.Count() != count {
		t.Errorf("Fill did %d accesses", m.Count()-count)
	}
}

// P6.1: of a head or a link that tells no item, there is none.
func TestListOfAnyCells(t *testing.T) {
	for _, c := range []struct {
		words []uint64
		want  []int
	}{
		{[]uint64{0, 2, 3, 0}, nil},
		{[]uint64{head(-1, 9), 2, 3, 0}, nil},
		{[]uint64{head(2, 9), 2, 3, 0}, []int{2}},
		{[]uint64{head(3, 0), 2, 3, 0}, nil},
		{[]uint64{head(4, 0), 2, 3, 0}, nil},
		{[]uint64{head(api.MaxTag-1, 0), 2, 3, 0}, nil},
		{[]uint64{math.MaxUint64, 2, 3, 0}, nil},
		{[]uint64{head(1, api.MaxTag), 2, 3, 0}, []int{1, 2}},
		{[]uint64{head(0, 0), 3, 3, 0}, []int{0, 2}},
		{[]uint64{head(0, 0), 4, 3, 0}, []int{0}},
		{[]uint64{head(0, 0), 2, 5, 0}, []int{0, 1}},
		{[]uint64{head(0, 0), 1<<32 + 2, 3, 0}, []int{0}},
		{[]uint64{head(0, 0), 1 << 63, 3, 0}, []int{0}},
		{[]uint64{head(0, 0), 1<<63 + 2, 3, 0}, []int{0}},
		{[]uint64{head(0, 0), math.MaxUint64, 3, 0}, []int{0}},
		{[]uint64{head(0, 0), 1, 3, 0}, []int{0, 0, 0}},
		{[]uint64{head(1, 0), 2, 1, 0}, []int{1, 0, 1}},
		{[]uint64{head(0, 0), 2, 3, 1}, []int{0, 1, 2}},
		{[]uint64{head(0, 0), 0}, []int{0}},
		{[]uint64{head(0, 0), 1}, []int{0}},
		{[]uint64{head(1, 0), 1}, nil},
		{[]uint64{head(0, 0), 2}, []int{0}},
	} {
		m, s := laid(t, c.words...)
		wantList(t, s, c.want...)
		wantHeld(t, m, c.words...)
		if m.Count() != 0 {
			t.Errorf("List did %d accesses", m.Count())
		}
	}
}

// P6.1: a stack as great as can be, whose links are a ring.
func TestListOfTheGreatestRing(t *testing.T) {
	m, s := filled(t, api.MaxChunks)
	m.Lay(api.MaxChunks, 1)
	wantList(t, s, upTo(api.MaxChunks)...)
	m.Lay(0, head(7, 0))
	want := upTo(api.MaxChunks + 7)[7:]
	for i := range want {
		want[i] %= api.MaxChunks
	}
	wantList(t, s, want...)
}

// P6.1, P0.4
func TestListIsNewMemory(t *testing.T) {
	_, s := filled(t, 5)
	a, b := s.List(), s.List()
	for i := range a {
		a[i] = 9
	}
	_ = append(a[:0], 8, 8, 8, 8, 8)
	if !slices.Equal(b, upTo(5)) {
		t.Errorf("another List turned to %v", b)
	}
	wantList(t, s, 0, 1, 2, 3, 4)
}

// P6.1, P0.5: two stacks over the same cells are one; two over other cells of the same memory share nothing.
func TestStacksOverOneMemory(t *testing.T) {
	m := made(t, 20, 0)
	a, same, other := over(t, m, 0, 1, 3), over(t, m, 0, 1, 3), over(t, m, 4, 5, 4)
	a.Fill()
	wantList(t, same, 0, 1, 2)
	wantList(t, other)
	other.Fill()
	through(t, m, popping(t, m, same, 1))
	wantList(t, a, 1, 2)
	wantList(t, other, 0, 1, 2, 3)
	through(t, m, popping(t, m, other, 3))
	through(t, m, pushing(t, m, other, 2))
	wantList(t, a, 1, 2)
	wantList(t, other, 2, 3)
}

// P6.2
func TestPushOfNone(t *testing.T) {
	for _, words := range [][]uint64{{0, 0}, {head(0, 3), 0}, {math.MaxUint64, 9}} {
		m, s := laid(t, words...)
		for _, l := range [][]int{nil, {}} {
			wantDone(t, m, pushing(t, m, s, l...))
		}
		wantHeld(t, m, words...)
	}
}

// P6.2: the accesses, one a step, in their order.
func TestPushAccesses(t *testing.T) {
	m, s := laid(t, 0, 0, 0, 77, 0, 0)
	wantSteps(t, m, pushing(t, m, s, 2), true,
		load(0, 0), store(3, 77, 0), turn(0, 0, head(2, 1)))
	wantHeld(t, m, head(2, 1), 0, 0, 0, 0, 0)
	wantList(t, s, 2)
	wantSteps(t, m, pushing(t, m, s, 4, 0), true,
		store(5, 0, 1), load(0, head(2, 1)), store(1, 0, 3), turn(0, head(2, 1), head(4, 2)))
	wantHeld(t, m, head(4, 2), 3, 0, 0, 0, 1)
	wantList(t, s, 4, 0, 2)
	wantSteps(t, m, pushing(t, m, s, 1, 3), true,
		store(2, 0, 4), load(0, head(4, 2)), store(4, 0, 5), turn(0, head(4, 2), head(1, 3)))
	wantList(t, s, 1, 3, 4, 0, 2)
}

// P6.2: all of them, of an empty stack that was turned.
func TestPushOfAll(t *testing.T) {
	m, s := laid(t, head(-1, 8), 9, 9, 9, 9)
	wantSteps(t, m, pushing(t, m, s, 3, 0, 2, 1), true,
		store(4, 9, 1), store(1, 9, 3), store(3, 9, 2), load(0, head(-1, 8)), store(2, 9, 0), turn(0, head(-1, 8), head(3, 9)))
	wantHeld(t, m, head(3, 9), 3, 0, 2, 1)
	wantList(t, s, 3, 0, 2, 1)
}

// P6.2
func TestPushOfTheLeastAndTheGreatest(t *testing.T) {
	m, s := laid(t, 0, 5)
	wantSteps(t, m, pushing(t, m, s, 0), true, load(0, 0), store(1, 5, 0), turn(0, 0, head(0, 1)))
	m = made(t, api.MaxChunks+1, 0)
	s = over(t, m, 0, 1, api.MaxChunks)
	l := upTo(api.MaxChunks)
	slices.Reverse(l)
	if n := through(t, m, pushing(t, m, s, l...)); n != api.MaxChunks+2 {
		t.Errorf("a Push of all is done behind %d accesses, want %d", n, api.MaxChunks+2)
	}
	wantList(t, s, l...)
	if m.Peek(0) != head(api.MaxChunks-1, 1) {
		t.Errorf("the head is %#x", m.Peek(0))
	}
}

// P6.2: cells beside those of the stack, and other places of its head and links.
func TestPushElsewhere(t *testing.T) {
	m := made(t, 9, 50)
	s := over(t, m, 7, 3, 3)
	m.Lay(7, head(1, 4))
	m.Lay(4, 0)
	wantSteps(t, m, pushing(t, m, s, 2, 0), true,
		store(5, 50, 1), load(7, head(1, 4)), store(3, 50, 2), turn(7, head(1, 4), head(2, 5)))
	wantHeld(t, m, 50, 50, 50, 2, 0, 1, 50, head(2, 5), 50)
}

// P6.2: a head's Index of n and more: there is none below; the exchange is from the word that was loaded all the same.
func TestPushOverAHeadThatTellsNone(t *testing.T) {
	for _, was := range []uint64{head(2, 6), head(3, 6), head(5, 6), head(api.MaxTag-1, 6), head(-1, 6)} {
		m, s := laid(t, was, 9, 9)
		wantSteps(t, m, pushing(t, m, s, 1), true, load(0, was), store(2, 9, 0), turn(0, was, head(1, 7)))
		wantList(t, s, 1)
	}
	m, s := laid(t, head(1, 6), 9, 0)
	wantSteps(t, m, pushing(t, m, s, 0), true, load(0, head(1, 6)), store(1, 9, 2), turn(0, head(1, 6), head(0, 7)))
}

// P6.2
func TestPushAtTheGreatestTag(t *testing.T) {
	for was, behind := range map[uint64]uint64{
		head(1, api.MaxTag):     head(0, 0),
		head(1, api.MaxTag-1):   head(0, api.MaxTag),
		head(-1, api.MaxTag):    head(0, 0),
		math.MaxUint64:          head(0, 0),
		head(1, math.MaxInt32):  head(0, math.MaxInt32+1),
		head(-1, math.MaxInt32): head(0, math.MaxInt32+1),
	} {
		m, s := laid(t, was, 0, 0)
		through(t, m, pushing(t, m, s, 0))
		if m.Peek(0) != behind {
			t.Errorf("behind a Push the head %#x is %#x, want %#x", was, m.Peek(0), behind)
		}
	}
}

// P6.2: an exchange that fails, twice: it goes on from the Load of the head, and links none of the others again.
func TestPushGoesOnFromTheHead(t *testing.T) {
	m, s := laid(t, head(4, 0), 0, 0, 0, 0, 0)
	p := pushing(t, m, s, 0, 1, 2)
	wantSteps(t, m, p, false, store(1, 0, 2), store(2, 0, 3), load(0, head(4, 0)), store(3, 0, 5))
	m.Lay(0, head(3, 1))
	wantSteps(t, m, p, false, missed(0, head(3, 1)), load(0, head(3, 1)), store(3, 5, 4))
	m.Lay(0, head(-1, 2))
	wantSteps(t, m, p, false, missed(0, head(-1, 2)), load(0, head(-1, 2)), store(3, 4, 0))
	m.Lay(0, head(-1, 3))
	wantSteps(t, m, p, false, missed(0, head(-1, 3)))
	m.Lay(0, head(4, 9))
	wantSteps(t, m, p, true, load(0, head(4, 9)), store(3, 0, 5), turn(0, head(4, 9), head(0, 10)))
	wantList(t, s, 0, 1, 2, 4)
}

// P6.2: the same item on top under another Tag is another head.
func TestPushSeesTheTag(t *testing.T) {
	m, s := laid(t, head(1, 5), 0, 0)
	p := pushing(t, m, s, 0)
	wantSteps(t, m, p, false, load(0, head(1, 5)), store(1, 0, 2))
	m.Lay(0, head(1, 6))
	wantSteps(t, m, p, false, missed(0, head(1, 6)))
	wantSteps(t, m, p, true, load(0, head(1, 6)), store(1, 2, 2), turn(0, head(1, 6), head(0, 7)))
}

// P6.2: the last one's link is what the Load has told, though the head is turned behind it; and is it turned back, the exchange holds.
func TestPushGoesByWhatItLoaded(t *testing.T) {
	m, s := laid(t, head(1, 5), 9, 0, 0)
	p := pushing(t, m, s, 0)
	wantSteps(t, m, p, false, load(0, head(1, 5)))
	m.Lay(0, head(2, 6))
	wantSteps(t, m, p, false, store(1, 9, 2))
	m.Lay(0, head(1, 5))
	wantSteps(t, m, p, true, turn(0, head(1, 5), head(0, 6)))
	wantList(t, s, 0, 1)
}

// P6.2, P0.2: nothing is made, and no access is done.
func TestPushOfWhatIsNoItem(t *testing.T) {
	m, s := laid(t, head(1, 5), 9, 9, 9, 9)
	words := held(m)
	wrong := [][]int{{-1}, {4}, {5}, {2, -1}, {2, 4}, {-1, 2}, {4, 2}, {2, 2}, {0, 0}, {3, 3}, {0, 1, 0}, {0, 2, 3, 2}, {2, 0, 3, 3}, {0, 1, 2, 3, 0}, {0, 1, 2, 3, 3}, {0, 1, 2, 3, 4}, {-1, -1}, {4, 4}}
	for _, n := range extremes {
		wrong = append(wrong, []int{n}, []int{0, n}, []int{n, 0}, []int{n, n}, []int{0, 1, 2, 3, n})
	}
	for _, l := range wrong {
		mine := slices.Clone(l)
		if p, code := s.Push(mine...); p != nil || code != api.ErrArg {
			t.Errorf("Push(%v) = %v, %d, want nil, ErrArg", l, p, code)
		}
		if !slices.Equal(mine, l) {
			t.Errorf("Push turned its list to %v, from %v", mine, l)
		}
	}
	wantHeld(t, m, words...)
	if m.Count() != 0 {
		t.Errorf("%d accesses", m.Count())
	}
}

// P6.2: the edges of the least stack and of the greatest.
func TestPushOfWhatIsNoItemOfOthers(t *testing.T) {
	for _, n := range []int{1, 2, api.MaxChunks} {
		m := made(t, api.MaxChunks+10, 0)
		s := over(t, m, 0, 1, n)
		through(t, m, pushing(t, m, s, n-1))
		count := m.Count()
		for _, l := range [][]int{{-1}, {n}, {n + 1}, append(upTo(n), n), append(upTo(n), n-1), append(upTo(n), 0)} {
			if p, code := s.Push(l...); p != nil || code != api.ErrArg {
				t.Errorf("Push of %d items, the last %d, of %d = %v, %d, want nil, ErrArg", len(l), l[len(l)-1], n, p, code)
			}
		}
		if m.Count() != count {
			t.Errorf("%d accesses", m.Count()-count)
		}
	}
}

// P6.2, P0.4: the list that was handed in is neither changed nor kept, nor what lies behind it.
func TestPushKeepsNoList(t *testing.T) {
	m, s := laid(t, 0, 0, 0, 0, 0)
	room := []int{3, 1, 0, 2, 2}
	l := room[:3]
	p := pushing(t, m, s, l...)
	if !p.Step() || !slices.Equal(room, []int{3, 1, 0, 2, 2}) {
		t.Errorf("the list is %v", room)
	}
	for i := range room {
		room[i] = 2
	}
	through(t, m, p)
	wantList(t, s, 3, 1, 0)
	if !slices.Equal(room, []int{2, 2, 2, 2, 2}) {
		t.Errorf("the list is %v", room)
	}
}

// P6.3
func TestPopOfAnEmptyStack(t *testing.T) {
	for _, was := range []uint64{0, head(-1, 7), head(3, 7), head(4, 0), head(api.MaxTag-1, 1), math.MaxUint64} {
		for _, most := range []int{-1, 0, 1, 2, api.MaxBatch, math.MaxInt} {
			m, s := laid(t, was, 2, 3, 0)
			p := popping(t, m, s, most)
			wantSteps(t, m, p, true, load(0, was))
			wantGot(t, p)
			wantHeld(t, m, was, 2, 3, 0)
		}
	}
}

// P6.3: the accesses, one a step, in their order.
func TestPopAccesses(t *testing.T) {
	m, s := filled(t, 6)
	p := popping(t, m, s, 1)
	wantSteps(t, m, p, true, load(0, 1), load(1, 2), turn(0, 1, head(1, 1)))
	wantGot(t, p, 0)
	wantList(t, s, 1, 2, 3, 4, 5)
	q := popping(t, m, s, 3)
	wantSteps(t, m, q, true, load(0, head(1, 1)), load(2, 3), load(3, 4), load(4, 5), turn(0, head(1, 1), head(4, 2)))
	wantGot(t, q, 1, 2, 3)
	wantGot(t, p, 0)
	wantList(t, s, 4, 5)
	r := popping(t, m, s, 2)
	wantSteps(t, m, r, true, load(0, head(4, 2)), load(5, 6), load(6, 0), turn(0, head(4, 2), head(-1, 3)))
	wantGot(t, r, 4, 5)
	wantList(t, s)
	wantSteps(t, m, popping(t, m, s, 2), true, load(0, head(-1, 3)))
	wantHeld(t, m, head(-1, 3), 2, 3, 4, 5, 6, 0)
}

// P6.3: how many there are at most, cut to what may be, of a stack that holds fewer, as many, and more.
func TestPopMost(t *testing.T) {
	for _, n := range []int{1, 2, 3, api.MaxBatch - 1, api.MaxBatch, api.MaxBatch + 1, 20} {
		for _, most := range append([]int{-2, -1, 0, 1, 2, 3, api.MaxBatch - 1, api.MaxBatch, api.MaxBatch + 1, api.MaxBatch + 2, 20, 1000}, extremes...) {
			k := min(max(most, 1), 8, n)
			m, s := filled(t, n)
			p := popping(t, m, s, most)
			if steps := through(t, m, p); steps != k+2 {
				t.Errorf("Pop(%d) of %d is done behind %d accesses, want %d", most, n, steps, k+2)
			}
			wantGot(t, p, upTo(k)...)
			wantList(t, s, upTo(n)[k:]...)
			top := k
			if k == n {
				top = -1
			}
			if m.Peek(0) != head(top, 1) {
				t.Errorf("Pop(%d) of %d: the head is %#x, want %#x", most, n, m.Peek(0), head(top, 1))
			}
		}
	}
}

// P6.3
func TestPopOfTheGreatest(t *testing.T) {
	m, s := filled(t, api.MaxChunks)
	var all []int
	for len(all) < api.MaxChunks {
		p := popping(t, m, s, api.MaxBatch)
		if steps := through(t, m, p); steps != api.MaxBatch+2 {
			t.Fatalf("%d accesses", steps)
		}
		all = append(all, p.Got()...)
	}
	if !slices.Equal(all, upTo(api.MaxChunks)) {
		t.Errorf("what was taken is %v", all)
	}
	if m.Peek(0) != head(-1, api.MaxChunks/api.MaxBatch) {
		t.Errorf("the head is %#x", m.Peek(0))
	}
}

// P6.3: cells beside those of the stack, and other places of its head and links.
func TestPopElsewhere(t *testing.T) {
	m := made(t, 9, 50)
	s := over(t, m, 7, 3, 3)
	s.Fill()
	p := popping(t, m, s, 2)
	wantSteps(t, m, p, true, load(7, 1), load(3, 2), load(4, 3), turn(7, 1, head(2, 1)))
	wantHeld(t, m, 50, 50, 50, 2, 3, 0, 50, head(2, 1), 50)
}

// P6.3: of a link that is more than n there is none below.
func TestPopOverALinkThatTellsNone(t *testing.T) {
	for _, link := range []uint64{0, 4, 5, 1 << 32, 1<<32 + 2, 1 << 63, 1<<63 + 2, math.MaxUint64} {
		for _, most := range []int{1, 2, 8} {
			m, s := laid(t, head(0, 4), link, 3, 0)
			p := popping(t, m, s, most)
			wantSteps(t, m, p, true, load(0, head(0, 4)), load(1, link), turn(0, head(0, 4), head(-1, 5)))
			wantGot(t, p, 0)
		}
	}
	m, s := laid(t, head(0, 4), 3, 3, 0)
	p := popping(t, m, s, 1)
	wantSteps(t, m, p, true, load(0, head(0, 4)), load(1, 3), turn(0, head(0, 4), head(2, 5)))
	wantGot(t, p, 0)
}

// P6.3: links in a ring: it ends, with no more than most.
func TestPopOfARing(t *testing.T) {
	m, s := laid(t, head(1, 0), 2, 1)
	p := popping(t, m, s, 3)
	wantSteps(t, m, p, true, load(0, head(1, 0)), load(2, 1), load(1, 2), load(2, 1), turn(0, head(1, 0), head(0, 1)))
	wantGot(t, p, 1, 0, 1)
	q := popping(t, m, s, math.MaxInt)
	if n := through(t, m, q); n != api.MaxBatch+2 {
		t.Errorf("%d accesses", n)
	}
	wantGot(t, q, 0, 1, 0, 1, 0, 1, 0, 1)
}

// P6.3
func TestPopAtTheGreatestTag(t *testing.T) {
	for tag, behind := range map[int]int{api.MaxTag: 0, api.MaxTag - 1: api.MaxTag, math.MaxInt32: math.MaxInt32 + 1, 0: 1} {
		m, s := laid(t, head(0, tag), 2, 0)
		through(t, m, popping(t, m, s, 1))
		if m.Peek(0) != head(1, behind) {
			t.Errorf("behind Tag %d the head is %#x", tag, m.Peek(0))
		}
		m, s = laid(t, head(0, tag), 2, 0)
		through(t, m, popping(t, m, s, 2))
		if m.Peek(0) != head(-1, behind) {
			t.Errorf("behind Tag %d the head is %#x", tag, m.Peek(0))
		}
	}
}

// P6.3: an exchange that fails, more than once: it goes on from the Load of the head, with no items.
func TestPopGoesOnFromTheHead(t *testing.T) {
	m, s := filled(t, 4)
	p := popping(t, m, s, 3)
	wantSteps(t, m, p, false, load(0, 1), load(1, 2), load(2, 3), load(3, 4))
	m.Lay(0, head(2, 1))
	wantSteps(t, m, p, false, missed(0, head(2, 1)), load(0, head(2, 1)), load(3, 4), load(4, 0))
	m.Lay(0, head(3, 2))
	wantSteps(t, m, p, false, missed(0, head(3, 2)))
	m.Lay(0, head(1, 3))
	wantSteps(t, m, p, true, load(0, head(1, 3)), load(2, 3), load(3, 4), load(4, 0), turn(0, head(1, 3), head(-1, 4)))
	wantGot(t, p, 1, 2, 3)
}

// P6.3: the items that it had seen are not its own, when the stack is empty at the second look.
func TestPopFindsNoneAtTheSecondLook(t *testing.T) {
	for _, empty := range []uint64{head(-1, 1), head(3, 1), head(-1, 0)} {
		m, s := filled(t, 3)
		p := popping(t, m, s, 2)
		wantSteps(t, m, p, false, load(0, 1), load(1, 2), load(2, 3))
		m.Lay(0, empty)
		wantSteps(t, m, p, true, missed(0, empty), load(0, empty))
		wantGot(t, p)
	}
}

// P6.3: the same item on top under another Tag is another head.
func TestPopSeesTheTag(t *testing.T) {
	m, s := filled(t, 3)
	p := popping(t, m, s, 1)
	wantSteps(t, m, p, false, load(0, 1), load(1, 2))
	m.Lay(0, head(0, 1))
	m.Lay(1, 3)
	wantSteps(t, m, p, true, missed(0, head(0, 1)), load(0, head(0, 1)), load(1, 3), turn(0, head(0, 1), head(2, 2)))
	wantGot(t, p, 0)
}

// P6.3: what counts is what each Load has told, though the links are turned behind it.
func TestPopGoesByWhatItLoaded(t *testing.T) {
	m, s := filled(t, 4)
	p := popping(t, m, s, 2)
	wantSteps(t, m, p, false, load(0, 1), load(1, 2))
	m.Lay(1, 4)
	m.Lay(2, 4)
	wantSteps(t, m, p, false, load(2, 4))
	m.Lay(2, 0)
	wantSteps(t, m, p, true, turn(0, 1, head(3, 1)))
	wantGot(t, p, 0, 1)
}

// P6.3, P0.4
func TestGotIsNewMemory(t *testing.T) {
	m, s := filled(t, 5)
	p := popping(t, m, s, 3)
	through(t, m, p)
	a, b := p.Got(), p.Got()
	for i := range a {
		a[i] = 9
	}
	_ = append(a, 7)
	_ = append(b, 6)
	wantGot(t, p, 0, 1, 2)
	if !slices.Equal(b, []int{0, 1, 2}) {
		t.Errorf("another Got turned to %v", b)
	}
}

// P6.3, P0.5: what a Pop got stays, whatever is done to the stack behind it.
func TestGotStays(t *testing.T) {
	m, s := filled(t, 3)
	p := popping(t, m, s, 2)
	through(t, m, p)
	through(t, m, pushing(t, m, s, 1))
	through(t, m, popping(t, m, s, 8))
	s.Fill()
	wantGot(t, p, 0, 1)
	wantDone(t, m, p)
}

// P6.2, P6.3: by word's own Next: each exchange turns the Tag by one, and nothing else does.
func TestTagBehindEachExchange(t *testing.T) {
	m, s := filled(t, 3)
	turned := 0
	for i := range 30 {
		var x machine = popping(t, m, s, i%3+1)
		if l := s.List(); len(l) < 3 && i%2 == 1 {
			x = pushing(t, m, s, slices.DeleteFunc(upTo(3), func(i int) bool { return slices.Contains(l, i) })...)
		}
		for x.Step() {
			if a := m.Last(); a.Kind == cells.Cas {
				turned++
			}
			if tag := word.GetHead(m.Peek(0)).Tag; tag != turned {
				t.Fatalf("behind %d exchanges the Tag is %d", turned, tag)
			}
		}
	}
	if turned < 15 {
		t.Errorf("only %d exchanges", turned)
	}
}
