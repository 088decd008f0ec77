package size_test

import (
	"math"
	"testing"

	"rundale/api"
	"rundale/size"
)

// extremes are numbers far out of all bounds: the ends of all numbers, and those that look small when their upper bits are lost.
var extremes = []int{math.MinInt, math.MinInt + 1, -1 << 62, -1 << 32, 1 << 32, 1<<32 + 1, 1 << 62, math.MaxInt - 1, math.MaxInt}

// wrongPairs are pairs of words and need that are not right.
func wrongPairs() (all [][2]int) {
	for words := 1; words <= api.MaxWords; words++ {
		all = append(all, [2]int{words, 0}, [2]int{words, -1}, [2]int{words, words + 1}, [2]int{words, -words}, [2]int{words, 2 * words})
	}
	for _, need := range []int{-1, 0, 1, 2, api.MaxWords/2 + 1, api.MaxWords, api.MaxWords + 1} {
		for _, words := range []int{-1, 0, -api.MaxWords, api.MaxWords + 1, 2 * api.MaxWords} {
			all = append(all, [2]int{words, need})
		}
	}
	for _, one := range extremes {
		for _, other := range append([]int{-1, 0, 1, 16, api.MaxWords, api.MaxWords + 1}, extremes...) {
			all = append(all, [2]int{one, other}, [2]int{other, one})
		}
	}
	return all
}

// eachRight calls see with every right pair.
func eachRight(see func(words, need int)) {
	for words := 1; words <= api.MaxWords; words++ {
		for need := 1; need <= words; need++ {
			see(words, need)
		}
	}
}

// leastMultiple is the least multiple of unit that is not below n, found by going up one by one.
func leastMultiple(unit, n int) int {
	sum := unit
	for sum < n {
		sum += unit
	}
	return sum
}

// P3.1
func TestExamples(t *testing.T) {
	if n := size.Round(3, 9); n != 16 {
		t.Errorf("Round(3, 9) = %d, want 16", n)
	}
	if size.Alone(16, 8) {
		t.Error("Alone(16, 8) = true, want false")
	}
	if n := size.After(16, 9); n != 16 {
		t.Errorf("After(16, 9) = %d, want 16", n)
	}
}

// P3.1
func TestRoundIsTheLeastMultiple(t *testing.T) {
	for class, unit := range []int{1, 2, 4, 8} {
		for n := 1; n <= api.MaxWords; n++ {
			if got, want := size.Round(class, n), leastMultiple(unit, n); got != want {
				t.Errorf("Round(%d, %d) = %d, want %d", class, n, got, want)
			}
		}
	}
}

// P3.1
func TestRoundAtAMultipleAndOneBeyond(t *testing.T) {
	for _, c := range []struct{ class, n, want int }{
		{0, 1, 1}, {0, 2, 2}, {0, 1024, 1024},
		{1, 1, 2}, {1, 2, 2}, {1, 3, 4}, {1, 1023, 1024}, {1, 1024, 1024},
		{2, 1, 4}, {2, 4, 4}, {2, 5, 8}, {2, 1021, 1024}, {2, 1024, 1024},
		{3, 1, 8}, {3, 8, 8}, {3, 9, 16}, {3, 1016, 1016}, {3, 1017, 1024}, {3, 1024, 1024},
	} {
		if got := size.Round(c.class, c.n); got != c.want {
			t.Errorf("Round(%d, %d) = %d, want %d", c.class, c.n, got, c.want)
		}
	}
}

// P3.1
func TestRoundCutsTheClass(t *testing.T) {
	for _, class := range append([]int{-64, -2, -1, api.MaxClass + 1, api.MaxClass + 2, 10, 11, 62, 63, 64, 65, 256}, extremes...) {
		unit := 1
		if class > 0 {
			unit = 8
		}
		for _, n := range []int{1, 2, 7, 8, 9, 1016, 1017, api.MaxWords} {
			if got, want := size.Round(class, n), leastMultiple(unit, n); got != want {
				t.Errorf("Round(%d, %d) = %d, want %d", class, n, got, want)
			}
		}
	}
}

// P3.1
func TestRoundOfWhatIsOutOfBounds(t *testing.T) {
	for _, n := range append([]int{0, -1, -7, -8, -api.MaxWords, api.MaxWords + 1, api.MaxWords + 8, 2 * api.MaxWords}, extremes...) {
		for _, class := range append([]int{-1, 0, 1, 2, api.MaxClass, api.MaxClass + 1}, extremes...) {
			if got := size.Round(class, n); got != 0 {
				t.Errorf("Round(%d, %d) = %d, want 0", class, n, got)
			}
		}
	}
}

// P3.1
func TestAloneIsMoreThanHalf(t *testing.T) {
	eachRight(func(words, need int) {
		if got, want := size.Alone(words, need), need+need > words; got != want {
			t.Fatalf("Alone(%d, %d) = %t, want %t", words, need, got, want)
		}
	})
}

// P3.1
func TestAloneAtHalfAndOneMore(t *testing.T) {
	for _, c := range []struct {
		words, need int
		want        bool
	}{
		{1, 1, true}, {2, 1, false}, {2, 2, true}, {3, 1, false}, {3, 2, true}, {9, 4, false}, {9, 5, true},
		{16, 8, false}, {16, 9, true}, {1023, 511, false}, {1023, 512, true}, {1024, 512, false}, {1024, 513, true}, {1024, 1024, true},
	} {
		if got := size.Alone(c.words, c.need); got != c.want {
			t.Errorf("Alone(%d, %d) = %t, want %t", c.words, c.need, got, c.want)
		}
	}
}

// P3.1
func TestFitsAtEachOff(t *testing.T) {
	for _, words := range []int{1, 2, 3, 4, 9, 16, 17, 64} {
		for need := 1; need <= words; need++ {
			for off := -words - 1; off <= 2*words+1; off++ {
				want := 2*need <= words && off >= 0 && off+need <= words
				if got := size.Fits(words, off, need); got != want {
					t.Errorf("Fits(%d, %d, %d) = %t, want %t", words, off, need, got, want)
				}
			}
		}
	}
}

// P3.1
func TestFitsAtTheEdgesOfOff(t *testing.T) {
	eachRight(func(words, need int) {
		shared := 2*need <= words
		for _, off := range []int{0, words - need} {
			if got := size.Fits(words, off, need); got != shared {
				t.Fatalf("Fits(%d, %d, %d) = %t, want %t", words, off, need, got, shared)
			}
		}
		for _, off := range []int{-1, words - need + 1, words, -need} {
			if size.Fits(words, off, need) {
				t.Fatalf("Fits(%d, %d, %d) = true, want false", words, off, need)
			}
		}
	})
}

// P3.1
func TestFitsAtNoOff(t *testing.T) {
	for _, off := range extremes {
		for _, c := range [][2]int{{1, 1}, {2, 1}, {16, 1}, {16, 8}, {16, 9}, {api.MaxWords, 1}, {api.MaxWords, 512}, {api.MaxWords, api.MaxWords}} {
			if size.Fits(c[0], off, c[1]) {
				t.Errorf("Fits(%d, %d, %d) = true, want false", c[0], off, c[1])
			}
		}
	}
}

// P3.1
func TestAfterIsAllOrNeed(t *testing.T) {
	eachRight(func(words, need int) {
		want := need
		if 2*need > words {
			want = words
		}
		if got := size.After(words, need); got != want {
			t.Fatalf("After(%d, %d) = %d, want %d", words, need, got, want)
		}
	})
}

// P3.1
func TestPairsThatAreNotRight(t *testing.T) {
	for _, pair := range wrongPairs() {
		words, need := pair[0], pair[1]
		if size.Alone(words, need) {
			t.Errorf("Alone(%d, %d) = true, want false", words, need)
		}
		if got := size.After(words, need); got != 0 {
			t.Errorf("After(%d, %d) = %d, want 0", words, need, got)
		}
		for _, off := range append([]int{-1, 0, 1, api.MaxWords, words, need}, extremes...) {
			if size.Fits(words, off, need) {
				t.Errorf("Fits(%d, %d, %d) = true, want false", words, off, need)
			}
		}
	}
}

// P3.2
func TestAGreaterClassRoundsToNoLess(t *testing.T) {
	classes := []int{math.MinInt, -1, 0, 1, 2, api.MaxClass, api.MaxClass + 1, 62, 63, 64, math.MaxInt}
	for n := -1; n <= api.MaxWords+1; n++ {
		for i := range len(classes) - 1 {
			less, more := size.Round(classes[i], n), size.Round(classes[i+1], n)
			if more < less {
				t.Errorf("Round(%d, %d) = %d, but Round(%d, %d) = %d", classes[i], n, less, classes[i+1], n, more)
			}
		}
	}
}

// P3.2
func TestRoundOfRoundIsTheSame(t *testing.T) {
	for _, class := range append([]int{-1, 0, 1, 2, api.MaxClass, api.MaxClass + 1}, extremes...) {
		for n := 1; n <= api.MaxWords; n++ {
			once := size.Round(class, n)
			if twice := size.Round(class, once); twice != once || once < n {
				t.Errorf("Round(%d, %d) = %d, and of that %d", class, n, once, twice)
			}
		}
		for _, n := range append([]int{0, -1, api.MaxWords + 1}, extremes...) {
			if twice := size.Round(class, size.Round(class, n)); twice != 0 {
				t.Errorf("Round(%d, Round(%d, %d)) = %d, want 0", class, class, n, twice)
			}
		}
	}
}
