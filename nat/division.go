package nat

import (
	"math/bits"
	"slices"

	"sextant/api"
)

// Div: a over b, and what is left.
func Div(a, b []uint32) (q, r []uint32, e api.Errno) {
	if !Sound(a) || !Sound(b) {
		return nil, nil, api.ErrForm
	}
	if len(b) == 0 {
		return nil, nil, api.ErrZero
	}
	q, r = divide(a, b)
	return q, r, api.OK
}

// Root: the whole part of the square root, and what is left.
func Root(a []uint32) (s, r []uint32, e api.Errno) {
	if !Sound(a) {
		return nil, nil, api.ErrForm
	}
	s = root(a)
	return s, difference(a, product(s, s)), api.OK
}

// divide is the long division with words as digits; b is not 0.
func divide(a, b []uint32) (q, r []uint32) {
	if order(a, b) < 0 {
		return nil, slices.Clone(a)
	}
	if len(b) == 1 {
		q = slices.Clone(a)
		r = trim([]uint32{divideByWord(q, b[0])})
		return trim(q), r
	}
	// With the divisor's top bit set, a digit that is guessed from the top words is hardly ever wrong.
	up := bits.LeadingZeros32(b[len(b)-1])
	v := shiftUp(b, up)
	u := make([]uint32, len(a)+1)
	copy(u, shiftUp(a, up))
	q = make([]uint32, len(a)-len(b)+1)
	for i := range len(q) {
		k := len(q) - 1 - i
		q[k] = takeDigit(u[k:k+len(v)+1], v)
	}
	return trim(q), shiftDown(trim(u), up)
}

// divideByWord leaves the quotient in a, and answers what is left.
func divideByWord(a []uint32, w uint32) uint32 {
	var left uint32
	for i := range len(a) {
		k := len(a) - 1 - i
		a[k], left = bits.Div32(left, a[k], w)
	}
	return left
}

// takeDigit answers how often v goes into u, and leaves in u what is left. u has one word more than v and is less than v with a word 0 below it, so that the answer is one word.
func takeDigit(u, v []uint32) uint32 {
	digit := guessDigit(u, v)
	if subTimes(u, v, digit) {
		digit--
		addBack(u, v)
	}
	return digit
}

// guessDigit looks at the three top words of u and the two of v: its answer is the digit, or one more.
func guessDigit(u, v []uint32) uint32 {
	n := len(v)
	head := uint64(u[n])<<wordBits | uint64(u[n-1])
	top, next := uint64(v[n-1]), uint64(v[n-2])
	guess, left := head/top, head%top
	for left>>wordBits == 0 && (guess>>wordBits != 0 || guess*next > left<<wordBits|uint64(u[n-2])) {
		guess--
		left += top
	}
	return uint32(guess)
}

// subTimes takes v times w from u, which is one word longer, and tells whether that went below 0.
func subTimes(u, v []uint32, w uint32) bool {
	var carry uint64
	for i := range len(v) {
		carry += uint64(v[i]) * uint64(w)
		word := uint32(carry)
		carry >>= wordBits
		if u[i] < word {
			carry++
		}
		u[i] -= word
	}
	below := uint64(u[len(v)]) < carry
	u[len(v)] -= uint32(carry)
	return below
}

// addBack adds v to u, which is one word longer and had gone below 0; what is carried beyond u's top makes that good.
func addBack(u, v []uint32) {
	var carry uint32
	for i := range len(v) {
		u[i], carry = bits.Add32(u[i], v[i], carry)
	}
	u[len(v)] += carry
}

// root goes down by Newton's steps from a power of 2 above the root; the first step that goes down no more has found it.
func root(a []uint32) []uint32 {
	if len(a) == 0 {
		return nil
	}
	s := shiftUp([]uint32{1}, (Bits(a)+1)/2)
	for {
		q, _ := divide(a, s)
		next := shiftDown(sum(s, q), 1)
		if order(next, s) >= 0 {
			return s
		}
		s = next
	}
}
