package bits_test

import (
	"math"
	"testing"

	"rundale/bits"
)

const all = uint64(math.MaxUint64)

// samples are words whose bits differ at many places, beside the plainest ones.
var samples = []uint64{0, 1, 2, 1 << 63, 1<<63 - 1, all, 0x5555555555555555, 0xaaaaaaaaaaaaaaaa, 0xfedcba9876543210, 0x0123456789abcdef}

// noFields are pairs of at and wide that name no field of a word.
var noFields = []struct{ at, wide int }{
	{-1, 0}, {-1, 1}, {-1, 64}, {-64, 64},
	{0, -1}, {1, -1}, {64, -1}, {65, -1}, {-1, -1},
	{65, 0}, {64, 1}, {63, 2}, {61, 4}, {1, 64}, {0, 65}, {-1, 65},
	{math.MaxInt, 0}, {math.MaxInt, 1}, {math.MaxInt, 64}, {math.MaxInt, math.MaxInt},
	{0, math.MaxInt}, {1, math.MaxInt}, {64, math.MaxInt},
	{math.MinInt, 0}, {math.MinInt, 1}, {math.MinInt, 64}, {math.MinInt, math.MinInt},
	{0, math.MinInt}, {1, math.MinInt}, {64, math.MinInt},
	{math.MinInt, math.MaxInt}, {math.MaxInt, math.MinInt},
	{1 << 62, 1 << 62}, {-1 << 62, 1 << 62},
	{1 << 32, 1}, {1, 1 << 32}, {256, 1}, {1, 256},
}

// bitOf is the bit of w at that place, reckoned by division alone, so that it leans on no shift of the package's.
func bitOf(w uint64, place int) uint64 {
	for range place {
		w /= 2
	}
	return w % 2
}

// eachField calls see with every field that a word has.
func eachField(see func(at, wide int)) {
	for wide := 0; wide <= 64; wide++ {
		for at := 0; at+wide <= 64; at++ {
			see(at, wide)
		}
	}
}

// P1.1
func TestMaskHasTheLowestBits(t *testing.T) {
	for wide := 0; wide <= 64; wide++ {
		m := bits.Mask(wide)
		for place := range 64 {
			want := uint64(0)
			if place < wide {
				want = 1
			}
			if bitOf(m, place) != want {
				t.Errorf("Mask(%d) = %#x: bit %d is not %d", wide, m, place, want)
			}
		}
	}
}

// P1.1
func TestMaskCutsWide(t *testing.T) {
	for _, wide := range []int{-1, -2, -63, -64, -65, -256, -1 << 32, math.MinInt + 1, math.MinInt} {
		if m := bits.Mask(wide); m != 0 {
			t.Errorf("Mask(%d) = %#x, want 0", wide, m)
		}
	}
	for _, wide := range []int{65, 66, 127, 128, 256, 1 << 32, 1<<32 + 1, math.MaxInt - 1, math.MaxInt} {
		if m := bits.Mask(wide); m != all {
			t.Errorf("Mask(%d) = %#x, want all bits", wide, m)
		}
	}
}

// P1.1
func TestFitsAtTheEdge(t *testing.T) {
	for wide := 0; wide < 64; wide++ {
		last := bits.Mask(wide)
		if !bits.Fits(0, wide) || !bits.Fits(last, wide) {
			t.Errorf("Fits: 0 or %#x doesn't fit into %d bits", last, wide)
		}
		for place := wide; place < 64; place++ {
			if v := uint64(1) << place; bits.Fits(v, wide) || bits.Fits(v|last, wide) {
				t.Errorf("Fits: %#x fits into %d bits", v, wide)
			}
		}
	}
}

// P1.1
func TestFitsCutsWide(t *testing.T) {
	for _, v := range samples {
		for _, wide := range []int{64, 65, 128, 1 << 32, math.MaxInt} {
			if !bits.Fits(v, wide) {
				t.Errorf("Fits(%#x, %d) = false", v, wide)
			}
		}
		for _, wide := range []int{0, -1, -64, -1 << 32, math.MinInt} {
			if bits.Fits(v, wide) != (v == 0) {
				t.Errorf("Fits(%#x, %d) = %t", v, wide, v != 0)
			}
		}
	}
}

// P1.1
func TestGetReadsTheFieldsBits(t *testing.T) {
	eachField(func(at, wide int) {
		for _, w := range samples {
			g := bits.Get(w, at, wide)
			for place := range 64 {
				want := uint64(0)
				if place < wide {
					want = bitOf(w, at+place)
				}
				if bitOf(g, place) != want {
					t.Fatalf("Get(%#x, %d, %d) = %#x: bit %d is not %d", w, at, wide, g, place, want)
				}
			}
		}
	})
}

// P1.1
func TestGetOfNoField(t *testing.T) {
	for _, f := range noFields {
		for _, w := range samples {
			if g := bits.Get(w, f.at, f.wide); g != 0 {
				t.Errorf("Get(%#x, %d, %d) = %#x, want 0", w, f.at, f.wide, g)
			}
		}
	}
}

// P1.1
func TestPutWritesTheFieldAlone(t *testing.T) {
	eachField(func(at, wide int) {
		for i, w := range samples {
			v := samples[len(samples)-1-i] & bits.Mask(wide)
			p, is := bits.Put(w, at, wide, v)
			if !is {
				t.Fatalf("Put(%#x, %d, %d, %#x) is refused", w, at, wide, v)
			}
			for place := range 64 {
				want := bitOf(w, place)
				if at <= place && place < at+wide {
					want = bitOf(v, place-at)
				}
				if bitOf(p, place) != want {
					t.Fatalf("Put(%#x, %d, %d, %#x) = %#x: bit %d is not %d", w, at, wide, v, p, place, want)
				}
			}
		}
	})
}

// P1.1
func TestPutWhatJustFits(t *testing.T) {
	eachField(func(at, wide int) {
		last := bits.Mask(wide)
		if p, is := bits.Put(0, at, wide, last); !is || p != last<<at {
			t.Errorf("Put(0, %d, %d, %#x) = %#x, %t", at, wide, last, p, is)
		}
		if wide == 64 {
			return
		}
		for _, v := range []uint64{last + 1, 1 << 63, all} {
			for _, w := range samples {
				if p, is := bits.Put(w, at, wide, v); p != 0 || is {
					t.Fatalf("Put(%#x, %d, %d, %#x) = %#x, %t, want 0, false", w, at, wide, v, p, is)
				}
			}
		}
	})
}

// P1.1
func TestPutIntoNoField(t *testing.T) {
	for _, f := range noFields {
		for _, w := range samples {
			for _, v := range []uint64{0, 1, all} {
				if p, is := bits.Put(w, f.at, f.wide, v); p != 0 || is {
					t.Errorf("Put(%#x, %d, %d, %#x) = %#x, %t, want 0, false", w, f.at, f.wide, v, p, is)
				}
			}
		}
	}
}

// P1.1
func TestExamples(t *testing.T) {
	if p, is := bits.Put(0, 4, 8, 255); p != 4080 || !is {
		t.Errorf("Put(0, 4, 8, 255) = %d, %t, want 4080, true", p, is)
	}
	if g := bits.Get(4080, 8, 4); g != 15 {
		t.Errorf("Get(4080, 8, 4) = %d, want 15", g)
	}
}

// P1.2
func TestWhatIsPutIsGot(t *testing.T) {
	eachField(func(at, wide int) {
		for _, w := range samples {
			for _, s := range samples {
				v := s & bits.Mask(wide)
				p, is := bits.Put(w, at, wide, v)
				if g := bits.Get(p, at, wide); !is || g != v {
					t.Fatalf("put %#x at %d, %d wide, into %#x: got %#x, %t", v, at, wide, w, g, is)
				}
			}
		}
	})
}

// P1.2
func TestFieldsApartDontDisturb(t *testing.T) {
	eachField(func(at, wide int) {
		eachField(func(other, otherWide int) {
			if max(at, other) < min(at+wide, other+otherWide) {
				return
			}
			for _, w := range []uint64{0, all, 0xfedcba9876543210} {
				v, u := ^w>>at&bits.Mask(wide), ^w>>other&bits.Mask(otherWide)
				one, isOne := bits.Put(w, at, wide, v)
				if bits.Get(one, other, otherWide) != bits.Get(w, other, otherWide) {
					t.Fatalf("a put at %d, %d wide, disturbs the field at %d, %d wide", at, wide, other, otherWide)
				}
				both, isBoth := bits.Put(one, other, otherWide, u)
				if !isOne || !isBoth || bits.Get(both, at, wide) != v || bits.Get(both, other, otherWide) != u {
					t.Fatalf("the fields at %d, %d wide, and at %d, %d wide: %#x", at, wide, other, otherWide, both)
				}
			}
		})
	})
}
