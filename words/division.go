package words

import (
	"math/bits"
	"slices"
)

// Divide: the whole quotient of a over b, which is not 0, and what is left. It is the long division with words as digits.
func Divide(a, b []uint32) (q, r []uint32) {
	if Order(a, b) < 0 {
		return nil, slices.Clone(a)
	}
	if len(b) == 1 {
		q, left := DivideByWord(a, b[0])
		return q, trim([]uint32{left})
	}
	// With the divisor's top bit set, a digit that is guessed from the top words is hardly ever wrong.
	up := bits.LeadingZeros32(b[len(b)-1])
	v := ShiftUp(b, up)
	u := make([]uint32, len(a)+1)
	copy(u, ShiftUp(a, up))
	q = make([]uint32, len(a)-len(b)+1)
	for i := range len(q) {
		k := len(q) - 1 - i
		q[k] = takeDigit(u[k:k+len(v)+1], v)
	}
	return trim(q), ShiftDown(trim(u), up)
}

// DivideByWord: the whole quotient of a over w, which is not 0, and what is left.
func DivideByWord(a []uint32, w uint32) (q []uint32, left uint32) {
	q = make([]uint32, len(a))
	for i := range len(a) {
		k := len(a) - 1 - i
		q[k], left = bits.Div32(left, a[k], w)
	}
	return trim(q), left
}

// takeDigit answers how often v goes into u, and leaves in u what is left. u has one word more than v and is less than v with a word 0 below it, so that the answer is one word.
func takeDigit(u, v []uint32) uint32 {
	digit := guessDigit(u, v)
	if subTimes(u, v, digit) {
		digit--
		addBack(u, v)
	}
	return digit
}

// guessDigit looks at the three top words of u and the two of v: its answer is the digit, or one more.
func guessDigit(u, v []uint32) uint32 {
	n := len(v)
	head := uint64(u[n])<<wordBits | uint64(u[n-1])
	top, next := uint64(v[n-1]), uint64(v[n-2])
	guess, left := head/top, head%top
	for left>>wordBits == 0 && (guess>>wordBits != 0 || guess*next > left<<wordBits|uint64(u[n-2])) {
		guess--
		left += top
	}
	return uint32(guess)
}

// subTimes takes v times w from u, which is one word longer, and tells whether that went below 0.
func subTimes(u, v []uint32, w uint32) bool {
	var carry uint64
	for i := range len(v) {
		carry += uint64(v[i]) * uint64(w)
		word := uint32(carry)
		carry >>= wordBits
		if u[i] < word {
			carry++
		}
		u[i] -= word
	}
	below := uint64(u[len(v)]) < carry
	u[len(v)] -= uint32(carry)
	return below
}

// addBack adds v to u, which is one word longer and had gone below 0; what is carried beyond u's top makes that good.
func addBack(u, v []uint32) {
	var carry uint32
	for i := range len(v) {
		u[i], carry = bits.Add32(u[i], v[i], carry)
	}
	u[len(v)] += carry
}
