package ints

import "math/bits"

// What a row holds: small enough that a set of few numbers far apart stays small, great enough that one of many has few rows.
const (
	wordBits = 64
	rowWords = 4
	rowBits  = rowWords * wordBits
)

// row has the numbers from at * rowBits on, a bit each.
type row struct {
	at   int
	bits [rowWords]uint64
}

// bitOf is the word and the bit that stand for a number in its row.
func bitOf(n int) (word int, bit uint64) {
	in := n % rowBits
	return in / wordBits, 1 << (in % wordBits)
}

// or adds another row's bits.
func (r *row) or(other row) {
	for i, word := range other.bits {
		r.bits[i] |= word
	}
}

// without is the row less another one's bits.
func (r row) without(other row) row {
	for i, word := range other.bits {
		r.bits[i] &^= word
	}
	return r
}

// meets: have both rows a bit together?
func (r row) meets(other row) bool {
	for i, word := range other.bits {
		if r.bits[i]&word != 0 {
			return true
		}
	}
	return false
}

// count is how many numbers the row has.
func (r row) count() int {
	count := 0
	for _, word := range r.bits {
		count += bits.OnesCount64(word)
	}
	return count
}

// appendTo appends the row's numbers, rising.
func (r row) appendTo(list []int) []int {
	for i, word := range r.bits {
		base := r.at*rowBits + i*wordBits
		for ; word != 0; word &= word - 1 {
			list = append(list, base+bits.TrailingZeros64(word))
		}
	}
	return list
}
