package exact

import (
	"sextant/api"
	"sextant/nat"
)

// Add: a + b.
func Add(a, b api.Num) (api.Num, api.Errno) {
	return reckon(sum, a, b)
}

// Sub: a - b.
func Sub(a, b api.Num) (api.Num, api.Errno) {
	return reckon(difference, a, b)
}

// Mul: a times b.
func Mul(a, b api.Num) (api.Num, api.Errno) {
	return reckon(product, a, b)
}

func reckon(by func(a, b ratio) ratio, a, b api.Num) (api.Num, api.Errno) {
	if !Sound(a) || !Sound(b) {
		return api.Num{}, api.ErrForm
	}
	return settle(by(spread(a), spread(b)))
}

// Div: a over b.
func Div(a, b api.Num) (api.Num, api.Errno) {
	if !Sound(a) || !Sound(b) {
		return api.Num{}, api.ErrForm
	}
	if isZero(b) {
		return api.Num{}, api.ErrZero
	}
	return settle(product(spread(a), inverse(spread(b))))
}

// maxPower: how far from 0 an exponent may be.
const maxPower = 1024

// Expt: a to the power n.
func Expt(a api.Num, n int) (api.Num, api.Errno) {
	switch {
	case !Sound(a):
		return api.Num{}, api.ErrForm
	case n < -maxPower || n > maxPower:
		return api.Num{}, api.ErrArg
	case n == 0:
		return Int(1), api.OK
	case n < 0 && isZero(a):
		return api.Num{}, api.ErrZero
	}
	p, e := power(spread(a), max(n, -n))
	if e != api.OK {
		return api.Num{}, e
	}
	if n < 0 {
		p = inverse(p)
	}
	return settle(p)
}

// power is a to the power n, n from 1 on, unless a power on the way is too long: so it goes through all of them, and looks for common divisors only where one may be too long with them, and not without.
func power(a ratio, n int) (ratio, api.Errno) {
	p := a
	for range n - 1 {
		p = product(p, a)
		if nat.Sound(p.re.size) && nat.Sound(p.im.size) && nat.Sound(p.bot) {
			continue
		}
		settled, e := settle(p)
		if e != api.OK {
			return ratio{}, e
		}
		p = spread(settled)
	}
	return p, api.OK
}
