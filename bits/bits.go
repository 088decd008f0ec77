// Package bits: fields of a word: see ../shared/doc/01-bits.md.
package bits

// wordWide is how many bits a word has.
const wordWide = 64

// Mask is a word whose wide lowest bits are 1, and all others 0; wide is cut to from 0 to 64.
func Mask(wide int) uint64 {
	cut := min(max(wide, 0), wordWide)
	// A shift by the whole word leaves 0, and 0 less 1 goes round to all bits: 64 needs no case of its own.
	return uint64(1)<<cut - 1
}

// Fits tells whether v has no bit outside of Mask(wide).
func Fits(v uint64, wide int) bool {
	return v&^Mask(wide) == 0
}

// Get is the field of wide bits from the bit at on, as a number; 0 of no field.
func Get(w uint64, at, wide int) uint64 {
	if !isField(at, wide) {
		return 0
	}
	return w >> at & Mask(wide)
}

// Put is w with v in the field of wide bits from the bit at on; 0, false if there is no such field, or v doesn't fit in.
func Put(w uint64, at, wide int, v uint64) (uint64, bool) {
	if !isField(at, wide) || !Fits(v, wide) {
		return 0, false
	}
	return w&^(Mask(wide)<<at) | v<<at, true
}

// isField tells whether a word has the field of wide bits from the bit at on.
func isField(at, wide int) bool {
	// wide is bounded ahead of the difference, and no sum is made, so that no number there is can overflow.
	return 0 <= wide && wide <= wordWide && 0 <= at && at <= wordWide-wide
}
