// Package word extracts bit fields from words and inserts them.
package word

import (
	"iter"
	"math/bits"

	"seisin/api"
)

const wordBits = 64

// Field returns the n bits of w from bit at on.
func Field(w uint64, at int, n int) (uint64, api.Errno) {
	if !inside(at, n) {
		return 0, api.ErrArg
	}
	return w >> at & Ones(n), api.OK
}

// With returns w with the n bits from bit at on replaced by v.
func With(w uint64, at int, n int, v uint64) (uint64, api.Errno) {
	if !inside(at, n) {
		return 0, api.ErrArg
	}
	if !Fits(v, n) {
		return 0, api.ErrRange
	}
	return w&^(Ones(n)<<at) | v<<at, api.OK
}

// Ones returns the word whose n lowest bits alone are 1.
func Ones(n int) uint64 {
	if n <= 0 {
		return 0
	}
	if n >= wordBits {
		return ^uint64(0)
	}
	return 1<<n - 1
}

// Fits reports whether v has at most n bits.
func Fits(v uint64, n int) bool {
	for at := range set(v) {
		if at >= n {
			return false
		}
	}
	return true
}

// inside reports whether a word has the n bits from bit at on.
// It subtracts, since at + n could wrap round.
func inside(at int, n int) bool {
	return at >= 0 && at < wordBits && n >= 1 && n <= wordBits-at
}

// set yields the places of the bits of w that are 1, in ascending order.
func set(w uint64) iter.Seq[int] {
	return func(yield func(int) bool) {
		for rest := w; rest != 0; rest &= rest - 1 {
			if !yield(bits.TrailingZeros64(rest)) {
				return
			}
		}
	}
}
