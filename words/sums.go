package words

import "math/bits"

// Sum: a + b.
func Sum(a, b []uint32) []uint32 {
	n := max(len(a), len(b))
	out := make([]uint32, n+1)
	var carry uint32
	for i := range n {
		out[i], carry = bits.Add32(wordAt(a, i), wordAt(b, i), carry)
	}
	out[n] = carry
	return trim(out)
}

// Difference: how far a and b are from each other.
func Difference(a, b []uint32) []uint32 {
	if Order(a, b) < 0 {
		a, b = b, a
	}
	out := make([]uint32, len(a))
	var borrow uint32
	for i := range len(a) {
		out[i], borrow = bits.Sub32(a[i], wordAt(b, i), borrow)
	}
	return trim(out)
}

// Product: a times b.
func Product(a, b []uint32) []uint32 {
	out := make([]uint32, len(a)+len(b))
	for i := range len(a) {
		out[i+len(b)] = addTimes(out[i:i+len(b)], b, a[i])
	}
	return trim(out)
}

// addTimes adds b times w to out, which is as long as b, and answers the word that is carried beyond it. The widest sum, w*w + w + w of the greatest word w, just fills 64 bits.
func addTimes(out, b []uint32, w uint32) uint32 {
	var carry uint64
	for i := range len(b) {
		carry += uint64(b[i])*uint64(w) + uint64(out[i])
		out[i] = uint32(carry)
		carry >>= wordBits
	}
	return uint32(carry)
}

// ShiftUp: a times 2 to the power n; n is not below 0.
func ShiftUp(a []uint32, n int) []uint32 {
	whole, rest := n/wordBits, n%wordBits
	out := make([]uint32, whole+len(a)+1)
	for i := range len(a) {
		wide := uint64(a[i]) << rest
		out[whole+i] |= uint32(wide)
		out[whole+i+1] = uint32(wide >> wordBits)
	}
	return trim(out)
}

// ShiftDown: the whole part of a over 2 to the power n; n is not below 0.
func ShiftDown(a []uint32, n int) []uint32 {
	whole, rest := n/wordBits, n%wordBits
	out := make([]uint32, max(len(a)-whole, 0))
	for i := range len(out) {
		wide := uint64(wordAt(a, whole+i+1))<<wordBits | uint64(a[whole+i])
		out[i] = uint32(wide >> rest)
	}
	return trim(out)
}
