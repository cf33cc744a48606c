package acc

import (
	"math"
	"math/bits"
)

const (
	// Bit 0 of word 0 stands for 2^lowest: the least product is 2^-2212, and has a place.
	lowest = -35 * wordBits

	// Bit 0 of the word at the top stands for 2^2560: beneath is room for every real that may be held, and itself it tells the sign (two's complement), and takes what goes beyond for a while.
	top = 75

	wordBits = 64
)

// words are a row of words, the lowest one first: one long whole number.
type words [top + 1]uint64

// put adds a product, (high * 2^64 + low) * 2^power, or takes it away.
func (w *words) put(high, low uint64, power int, neg bool) {
	place := uint(power - lowest)
	at, n := place/wordBits, place%wordBits
	flip, carry := turning(neg)
	w[at], carry = bits.Add64(w[at], low<<n^flip, carry)
	w[at+1], carry = bits.Add64(w[at+1], (high<<n|low>>(wordBits-n))^flip, carry)
	w[at+2], carry = bits.Add64(w[at+2], high>>(wordBits-n)^flip, carry)
	// From here on each word is the sign's: once the carry has made up for it, the words stay as they are.
	for i := at + 3; i <= top && carry != flip&1; i++ {
		w[i], carry = bits.Add64(w[i], flip, carry)
	}
}

// join adds y, or takes it away; y may be w itself.
func (w *words) join(y *words, neg bool) {
	flip, carry := turning(neg)
	for i := range w {
		w[i], carry = bits.Add64(w[i], y[i]^flip, carry)
	}
}

// turning is with what the words of a whole number are flipped, and what is carried into the lowest one, so that it is added, or, if neg is true, taken away.
func turning(neg bool) (flip, carry uint64) {
	if neg {
		return math.MaxUint64, 1
	}
	return 0, 0
}

// turned is w with the other sign.
func (w *words) turned() words {
	var r words
	r.join(w, true)
	return r
}

// size is w without its sign, and whether it was below 0.
func (w *words) size() (words, bool) {
	if w.sign() < 0 {
		return w.turned(), true
	}
	return *w, false
}

// sign is -1, 0 or 1.
func (w *words) sign() int {
	switch {
	case int64(w[top]) < 0:
		return -1
	case w.highest(top) < 0:
		return 0
	}
	return 1
}

// held tells whether w, and w turned, is below 2^2560.
func (w *words) held() bool {
	switch w[top] {
	case 0:
		return true
	case math.MaxUint64:
		// Of -2^2560 itself nothing stands beneath.
		return w.highest(top-1) >= 0
	}
	return false
}

// highest is the place of the highest word that is not 0, from the given one down; -1, if there is none.
func (w *words) highest(from int) int {
	for from >= 0 && w[from] == 0 {
		from--
	}
	return from
}

// front are the first 64 bits of a w from 0 on, as a whole number and its power of 2, and whether there is more behind them.
func (w *words) front() (whole uint64, power int, more bool) {
	at := w.highest(top)
	if at < 0 {
		return 0, 0, false
	}
	n := bits.LeadingZeros64(w[at])
	behind := uint64(0)
	if at > 0 {
		behind = w[at-1]
	}
	whole = w[at]<<n | behind>>(wordBits-n)
	return whole, lowest + at*wordBits - n, behind<<n != 0 || w.highest(at-2) >= 0
}

// quotient is what front is, of v / w, of a v from 0 on and a w above 0.
func quotient(v, w words) (whole uint64, power int, more bool) {
	if v.sign() == 0 {
		return 0, 0, false
	}
	// So the whole part of the quotient is one word, of 63 or 64 bits.
	power = w.raise(top*wordBits-1) - v.raise(top*wordBits+62)
	// The first words alone make it too great by 2 at most.
	whole, _ = bits.Div64(v[top], v[top-1], w[top-1])
	v.less(&w, whole)
	for int64(v[top]) < 0 {
		v.join(&w, false)
		whole--
	}
	return whole, power, v.sign() != 0
}

// raise shifts w up until its highest 1 has the place that is given, and tells by how many bits.
func (w *words) raise(place int) int {
	at := w.highest(top)
	by := place - (at*wordBits + bits.Len64(w[at]) - 1)
	far, n := by/wordBits, by%wordBits
	var r words
	over := uint64(0)
	for i := range len(w) - far {
		r[i+far] = w[i]<<n | over
		over = w[i] >> (wordBits - n)
	}
	*w = r
	return by
}

// less takes y times n away.
func (w *words) less(y *words, n uint64) {
	var over, carry, borrow uint64
	for i := range w {
		high, low := bits.Mul64(y[i], n)
		low, carry = bits.Add64(low, over, 0)
		over = high + carry
		w[i], borrow = bits.Sub64(w[i], low, borrow)
	}
}
