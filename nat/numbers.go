package nat

import (
	"sextant/api"
	"sextant/words"
)

// Add: a + b.
func Add(a, b []uint32) ([]uint32, api.Errno) {
	if !Sound(a) || !Sound(b) {
		return nil, api.ErrForm
	}
	return fit(words.Sum(a, b))
}

// Sub: a - b.
func Sub(a, b []uint32) ([]uint32, api.Errno) {
	if !Sound(a) || !Sound(b) {
		return nil, api.ErrForm
	}
	if words.Order(a, b) < 0 {
		return nil, api.ErrArg
	}
	return words.Difference(a, b), api.OK
}

// Mul: a times b.
func Mul(a, b []uint32) ([]uint32, api.Errno) {
	if !Sound(a) || !Sound(b) {
		return nil, api.ErrForm
	}
	return fit(words.Product(a, b))
}

// Div: a over b, and what is left.
func Div(a, b []uint32) (q, r []uint32, e api.Errno) {
	if !Sound(a) || !Sound(b) {
		return nil, nil, api.ErrForm
	}
	if len(b) == 0 {
		return nil, nil, api.ErrZero
	}
	q, r = words.Divide(a, b)
	return q, r, api.OK
}

// Gcd: the greatest common divisor.
func Gcd(a, b []uint32) ([]uint32, api.Errno) {
	if !Sound(a) || !Sound(b) {
		return nil, api.ErrForm
	}
	return words.Divisor(a, b), api.OK
}

// Root: the whole part of the square root, and what is left.
func Root(a []uint32) (s, r []uint32, e api.Errno) {
	if !Sound(a) {
		return nil, nil, api.ErrForm
	}
	s = root(a)
	return s, words.Difference(a, words.Product(s, s)), api.OK
}

// Shift: a times 2 to the power n, cut.
func Shift(a []uint32, n int) ([]uint32, api.Errno) {
	if !Sound(a) {
		return nil, api.ErrForm
	}
	if n < -api.MaxShift || n > api.MaxShift {
		return nil, api.ErrArg
	}
	if n < 0 {
		return words.ShiftDown(a, -n), api.OK
	}
	return fit(words.ShiftUp(a, n))
}

// root goes down by Newton's steps from a power of 2 above the root; the first step that goes down no more has found it.
func root(a []uint32) []uint32 {
	if len(a) == 0 {
		return nil
	}
	s := words.ShiftUp([]uint32{1}, (words.Bits(a)+1)/2)
	for {
		q, _ := words.Divide(a, s)
		next := words.ShiftDown(words.Sum(s, q), 1)
		if words.Order(next, s) >= 0 {
			return s
		}
		s = next
	}
}
