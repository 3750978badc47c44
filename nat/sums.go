package nat

import (
	"math/bits"

	"sextant/api"
)

// Add: a + b.
func Add(a, b []uint32) ([]uint32, api.Errno) {
	if !Sound(a) || !Sound(b) {
		return nil, api.ErrForm
	}
	return fit(sum(a, b))
}

// Sub: a - b.
func Sub(a, b []uint32) ([]uint32, api.Errno) {
	if !Sound(a) || !Sound(b) {
		return nil, api.ErrForm
	}
	if order(a, b) < 0 {
		return nil, api.ErrArg
	}
	return difference(a, b), api.OK
}

// Mul: a times b.
func Mul(a, b []uint32) ([]uint32, api.Errno) {
	if !Sound(a) || !Sound(b) {
		return nil, api.ErrForm
	}
	return fit(product(a, b))
}

// Shift: a times 2 to the power n, cut.
func Shift(a []uint32, n int) ([]uint32, api.Errno) {
	if !Sound(a) {
		return nil, api.ErrForm
	}
	if n < -api.MaxShift || n > api.MaxShift {
		return nil, api.ErrArg
	}
	if n < 0 {
		return shiftDown(a, -n), api.OK
	}
	return fit(shiftUp(a, n))
}

func sum(a, b []uint32) []uint32 {
	n := max(len(a), len(b))
	out := make([]uint32, n+1)
	var carry uint32
	for i := range n {
		out[i], carry = bits.Add32(wordAt(a, i), wordAt(b, i), carry)
	}
	out[n] = carry
	return trim(out)
}

// difference is a - b, where b is not greater than a.
func difference(a, b []uint32) []uint32 {
	out := make([]uint32, len(a))
	var borrow uint32
	for i := range len(a) {
		out[i], borrow = bits.Sub32(a[i], wordAt(b, i), borrow)
	}
	return trim(out)
}

func product(a, b []uint32) []uint32 {
	out := make([]uint32, len(a)+len(b))
	for i := range len(a) {
		out[i+len(b)] = addTimes(out[i:i+len(b)], b, a[i])
	}
	return trim(out)
}

// addTimes adds b times w to out, which is as long as b, and answers the word that is carried beyond it. The widest sum, w*w + w + w of the greatest word w, just fills 64 bits.
func addTimes(out, b []uint32, w uint32) uint32 {
	var carry uint64
	for i := range len(b) {
		carry += uint64(b[i])*uint64(w) + uint64(out[i])
		out[i] = uint32(carry)
		carry >>= wordBits
	}
	return uint32(carry)
}

func shiftUp(a []uint32, n int) []uint32 {
	words, rest := n/wordBits, n%wordBits
	out := make([]uint32, words+len(a)+1)
	for i := range len(a) {
		wide := uint64(a[i]) << rest
		out[words+i] |= uint32(wide)
		out[words+i+1] = uint32(wide >> wordBits)
	}
	return trim(out)
}

func shiftDown(a []uint32, n int) []uint32 {
	words, rest := n/wordBits, n%wordBits
	out := make([]uint32, max(len(a)-words, 0))
	for i := range len(out) {
		wide := uint64(wordAt(a, words+i+1))<<wordBits | uint64(a[words+i])
		out[i] = uint32(wide >> rest)
	}
	return trim(out)
}
