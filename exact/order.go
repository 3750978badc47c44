package exact

import (
	"sextant/api"
	"sextant/words"
)

// Cmp: -1, 0 or 1.
func Cmp(a, b api.Num) (int, api.Errno) {
	if e := wantReal(a, b); e != api.OK {
		return 0, e
	}
	x, y := spread(a), spread(b)
	return x.re.scaled(y.bot).order(y.re.scaled(x.bot)), api.OK
}

// Floor: the greatest whole number that is not above a.
func Floor(a api.Num) (api.Num, api.Errno) {
	if e := wantReal(a); e != api.OK {
		return api.Num{}, e
	}
	x := spread(a)
	q, _ := x.re.over(x.bot)
	return settle(ratio{re: q, bot: words.Of(1)})
}

// DivMod: the whole q and the r from 0 to below |b| with a = q b + r.
func DivMod(a, b api.Num) (q, r api.Num, e api.Errno) {
	if e := wantReal(a, b); e != api.OK {
		return api.Num{}, api.Num{}, e
	}
	if isZero(b) {
		return api.Num{}, api.Num{}, api.ErrZero
	}
	quotient, left := divMod(spread(a), spread(b))
	q, e = settle(quotient)
	if e != api.OK {
		return api.Num{}, api.Num{}, e
	}
	r, e = settle(left)
	if e != api.OK {
		return api.Num{}, api.Num{}, e
	}
	return q, r, api.OK
}

// divMod brings both over one bottom, where it is a division of whole numbers. By |b| the quotient is the one by b but for its sign, and the rest is the same.
func divMod(a, b ratio) (q, r ratio) {
	times, left := a.re.scaled(b.bot).over(words.Product(b.re.size, a.bot))
	if b.re.neg {
		times = times.opposite()
	}
	q = ratio{re: times, bot: words.Of(1)}
	r = ratio{re: signed(false, left), bot: words.Product(a.bot, b.bot)}
	return q, r
}

// wantReal: are they all sound and real?
func wantReal(numbers ...api.Num) api.Errno {
	for _, a := range numbers {
		if !Sound(a) {
			return api.ErrForm
		}
	}
	for _, a := range numbers {
		if !isReal(a) {
			return api.ErrType
		}
	}
	return api.OK
}
