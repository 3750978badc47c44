package words

import "slices"

// Divisor: the greatest common divisor of a and b. It goes through Euclid's pairs, each of which has the same common divisors.
func Divisor(a, b []uint32) []uint32 {
	if Order(a, b) < 0 {
		a, b = b, a
	}
	for len(b) > 2 {
		a, b = laterPair(a, b)
	}
	if len(b) == 0 {
		return slices.Clone(a)
	}
	_, r := Divide(a, b)
	x, y := short(b), short(r)
	for y != 0 {
		x, y = y, x%y
	}
	return Of(x)
}

// short answers a list of at most two words as one number.
func short(a []uint32) uint64 {
	return uint64(wordAt(a, 1))<<wordBits | uint64(wordAt(a, 0))
}

// laterPair goes as many of Euclid's steps as the top bits of both numbers tell, which is much less work than a long division for each step; if they tell none, it takes one by division. b has more than two words, and a is not less.
func laterPair(a, b []uint32) (x, y []uint32) {
	from := Bits(a) - 2*wordBits
	w := sureSteps(window(a, from), window(b, from))
	if w.bOfX == 0 {
		_, r := Divide(a, b)
		return b, r
	}
	x = Difference(Product(Of(w.aOfX), a), Product(Of(w.bOfX), b))
	y = Difference(Product(Of(w.aOfY), a), Product(Of(w.bOfY), b))
	return x, y
}

// weights: a later pair x, y is how far aOfX times a is from bOfX times b, and aOfY times a from bOfY times b.
type weights struct{ aOfX, bOfX, aOfY, bOfY uint64 }

// sureSteps divides the top bits of two numbers, for as long as the quotients are those of the whole numbers, whatever the bits below are (Collins' condition). So long, all weights are below 2 to the power 32.
func sureSteps(a, b uint64) weights {
	w := weights{aOfX: 0, bOfX: 0, aOfY: 1, bOfY: 0}
	aNext, bNext := uint64(0), uint64(1)
	for b >= bNext && a-b >= w.bOfY+bNext {
		q := a / b
		a, b = b, a%b
		w.aOfX, w.aOfY, aNext = w.aOfY, aNext, w.aOfY+q*aNext
		w.bOfX, w.bOfY, bNext = w.bOfY, bNext, w.bOfY+q*bNext
	}
	return w
}

// window answers the 64 bits of a number from one bit on.
func window(a []uint32, from int) uint64 {
	words, rest := from/wordBits, from%wordBits
	low := uint64(wordAt(a, words+1))<<wordBits | uint64(wordAt(a, words))
	high := uint64(wordAt(a, words+2))
	return low>>rest | high<<(2*wordBits-rest)
}
