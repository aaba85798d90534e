// Package word is bits of a word: see DOC.md, chapter 1. Bit i is worth 2^i.
package word

import (
	"iter"
	"math/bits"
)

const wordBits = 64

// Ones is a word with its n lowest bits set.
func Ones(n int) uint64 { return 1<<held(n) - 1 }

// Field is the n bits of w from bit at on, as a number; 0 if they don't lie in a word.
func Field(w uint64, at, n int) uint64 {
	if !inside(at, n) {
		return 0
	}
	return w >> at & Ones(n)
}

// With is w, but the n bits from bit at on are v; false if they don't lie in a word, or v is too great for them.
func With(w uint64, at, n int, v uint64) (uint64, bool) {
	if !inside(at, n) || v > Ones(n) {
		return 0, false
	}
	return w&^(Ones(n)<<at) | v<<at, true
}

// Count is how many bits of w are set.
func Count(w uint64) int { return bits.OnesCount64(w) }

// Low is the least place below n whose bit is not set in w.
func Low(w uint64, n int) (int, bool) {
	at := bits.TrailingZeros64(^w)
	if at >= held(n) {
		return 0, false
	}
	return at, true
}

// Nth is the place of the set bit of w below which just k are set.
func Nth(w uint64, k int) (int, bool) {
	below := 0
	for at := range places(w) {
		if below == k {
			return at, true
		}
		below++
	}
	return 0, false
}

// First is the k lowest of w's set bits.
func First(w uint64, k int) uint64 {
	at, ok := Nth(w, held(k))
	if !ok {
		return w
	}
	return w & Ones(at)
}

// Places is the places of w's set bits, rising.
func Places(w uint64) []int {
	list := make([]int, 0, Count(w))
	for at := range places(w) {
		list = append(list, at)
	}
	return list
}

// places goes through the places of w's set bits, rising.
func places(w uint64) iter.Seq[int] {
	return func(yield func(int) bool) {
		for rest := w; rest != 0; rest &= rest - 1 {
			if !yield(bits.TrailingZeros64(rest)) {
				return
			}
		}
	}
}

func held(n int) int { return min(max(n, 0), wordBits) }

// inside asks by a difference: a sum of at and n may go round.
func inside(at, n int) bool { return at >= 0 && n >= 0 && n <= wordBits-at }
