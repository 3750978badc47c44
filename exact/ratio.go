package exact

import (
	"sextant/api"
	"sextant/nat"
	"sextant/words"
)

// ratio is a complex number while it is reckoned with: re + im i over one bottom, which is not 0. Its parts are of any length and may have common divisors: to leave them in until the end is much less work than to look for them at each step.
type ratio struct {
	re, im whole
	bot    []uint32
}

// spread brings a sound number over one bottom.
func spread(a api.Num) ratio {
	common := words.Divisor(a.Re.Bot, a.Im.Bot)
	ofRe, _ := words.Divide(a.Im.Bot, common)
	ofIm, _ := words.Divide(a.Re.Bot, common)
	return ratio{
		re:  signed(a.Re.Neg, a.Re.Top).scaled(ofRe),
		im:  signed(a.Im.Neg, a.Im.Top).scaled(ofIm),
		bot: words.Product(a.Re.Bot, ofRe),
	}
}

// settle makes a sound number of it, unless that is too long. All lists of the number are new.
func settle(a ratio) (api.Num, api.Errno) {
	out := api.Num{Re: lowest(a.re, a.bot), Im: lowest(a.im, a.bot)}
	if !fits(out.Re) || !fits(out.Im) {
		return api.Num{}, api.ErrLarge
	}
	return out, api.OK
}

// lowest is top over bot without a common divisor.
func lowest(top whole, bot []uint32) api.Rat {
	common := words.Divisor(top.size, bot)
	high, _ := words.Divide(top.size, common)
	low, _ := words.Divide(bot, common)
	return api.Rat{Neg: top.neg, Top: high, Bot: low}
}

func fits(r api.Rat) bool {
	return nat.Sound(r.Top) && nat.Sound(r.Bot)
}

func sum(a, b ratio) ratio {
	return ratio{
		re:  a.re.scaled(b.bot).plus(b.re.scaled(a.bot)),
		im:  a.im.scaled(b.bot).plus(b.im.scaled(a.bot)),
		bot: words.Product(a.bot, b.bot),
	}
}

func difference(a, b ratio) ratio {
	return sum(a, ratio{re: b.re.opposite(), im: b.im.opposite(), bot: b.bot})
}

func product(a, b ratio) ratio {
	return ratio{
		re:  a.re.times(b.re).plus(a.im.times(b.im).opposite()),
		im:  a.re.times(b.im).plus(a.im.times(b.re)),
		bot: words.Product(a.bot, b.bot),
	}
}

// inverse is one over a, which is not 0.
func inverse(a ratio) ratio {
	if len(a.im.size) == 0 {
		return ratio{re: signed(a.re.neg, a.bot), bot: a.re.size}
	}
	square := a.re.times(a.re).plus(a.im.times(a.im))
	return ratio{re: a.re.scaled(a.bot), im: a.im.opposite().scaled(a.bot), bot: square.size}
}
