package exact

import "sextant/words"

// whole is a whole number of any length, as its sign and its size; 0 is not neg.
type whole struct {
	neg  bool
	size []uint32
}

func signed(neg bool, size []uint32) whole {
	return whole{neg: neg && len(size) > 0, size: size}
}

func (a whole) opposite() whole {
	return signed(!a.neg, a.size)
}

func (a whole) plus(b whole) whole {
	if a.neg == b.neg {
		return signed(a.neg, words.Sum(a.size, b.size))
	}
	if words.Order(a.size, b.size) < 0 {
		a, b = b, a
	}
	return signed(a.neg, words.Difference(a.size, b.size))
}

func (a whole) times(b whole) whole {
	return signed(a.neg != b.neg, words.Product(a.size, b.size))
}

// scaled is a times a natural number.
func (a whole) scaled(by []uint32) whole {
	return a.times(signed(false, by))
}

// order tells -1, 0 or 1.
func (a whole) order(b whole) int {
	switch gap := a.plus(b.opposite()); {
	case gap.neg:
		return -1
	case len(gap.size) == 0:
		return 0
	}
	return 1
}

// over is the greatest whole number that is not above a over b, and what is left, which is below b; b is not 0.
func (a whole) over(b []uint32) (q whole, r []uint32) {
	size, r := words.Divide(a.size, b)
	if a.neg && len(r) > 0 {
		size, r = words.Sum(size, words.Of(1)), words.Difference(b, r)
	}
	return signed(a.neg, size), r
}
