package exact

import (
	"strings"

	"sextant/api"
	"sextant/nat"
)

// Those of all radixes, each at its value.
const (
	smallDigits   = "0123456789abcdef"
	capitalDigits = "0123456789ABCDEF"
)

// numeral is a fraction as it stands in a text: its sign, and its digits above and below the stroke. What does not stand there is 0 or empty.
type numeral struct {
	sign     byte
	top, bot string
}

// Read: the number that a text is.
func Read(s string, radix int) (api.Num, api.Errno) {
	if !isRadix(radix) {
		return api.Num{}, api.ErrArg
	}
	body, radix := cutPrefixes(s, radix)
	re, im, ok := cutParts(body, radix)
	if !ok {
		return api.Num{}, api.ErrText
	}
	if len(s) > api.MaxShift {
		return api.Num{}, api.ErrLarge
	}
	return valueOf(re, im, radix)
}

// cutPrefixes answers what stands behind the prefixes, and the radix that holds there. A prefix that is none, or stands there again, stays, where nothing can begin with it.
func cutPrefixes(s string, radix int) (rest string, in int) {
	told, exact := false, false
	for len(s) > 1 && s[0] == '#' {
		by := radixOf(s[1])
		switch {
		case by > 0 && !told:
			radix, told = by, true
		case (s[1] == 'e' || s[1] == 'E') && !exact:
			exact = true
		default:
			return s, radix
		}
		s = s[2:]
	}
	return s, radix
}

// radixOf answers the radix that a prefix's letter tells, and 0 for another.
func radixOf(letter byte) int {
	switch letter {
	case 'b', 'B':
		return 2
	case 'o', 'O':
		return 8
	case 'd', 'D':
		return 10
	case 'x', 'X':
		return 16
	}
	return 0
}

// cutParts takes a text without prefixes apart; a part that does not stand there is 0.
func cutParts(s string, radix int) (re, im numeral, ok bool) {
	nought := numeral{top: "0"}
	first, rest := cutNumeral(s, radix)
	if rest == "" {
		return first, nought, first.top != ""
	}
	if isUnit(rest) {
		return nought, first, first.sign != 0
	}
	second, rest := cutNumeral(rest, radix)
	return first, second, first.top != "" && second.sign != 0 && isUnit(rest)
}

// isUnit: is it the letter behind an imaginary part?
func isUnit(s string) bool {
	return s == "i" || s == "I"
}

// cutNumeral takes as much as a sign and a fraction can be, and answers what stands behind them. A stroke that no fraction can have stays there, where nothing can begin with it.
func cutNumeral(s string, radix int) (n numeral, rest string) {
	if s != "" && (s[0] == '+' || s[0] == '-') {
		n.sign, s = s[0], s[1:]
	}
	n.top, s = cutDigits(s, radix)
	if n.top == "" || s == "" || s[0] != '/' {
		return n, s
	}
	bot, behind := cutDigits(s[1:], radix)
	if bot == "" {
		return n, s
	}
	n.bot = bot
	return n, behind
}

func cutDigits(s string, radix int) (digits, rest string) {
	n := 0
	for n < len(s) && isDigit(s[n], radix) {
		n++
	}
	return s[:n], s[n:]
}

func isDigit(c byte, radix int) bool {
	return strings.IndexByte(smallDigits[:radix], c) >= 0 || strings.IndexByte(capitalDigits[:radix], c) >= 0
}

// valueOf puts both parts together. Digits that are too many are told ahead of a bottom 0, in whichever part they are.
func valueOf(re, im numeral, radix int) (api.Num, api.Errno) {
	reTop, reBot, e := re.value(radix)
	imTop, imBot, f := im.value(radix)
	if e != api.OK || f != api.OK {
		return api.Num{}, api.ErrLarge
	}
	if len(reBot) == 0 || len(imBot) == 0 {
		return api.Num{}, api.ErrZero
	}
	return api.Num{Re: lowest(reTop, reBot), Im: lowest(imTop, imBot)}, api.OK
}

// value is what stands above and below the stroke, each 1 where nothing does: a sign alone is 1 with that sign.
func (n numeral) value(radix int) (top whole, bot []uint32, e api.Errno) {
	above, e := valueOrOne(n.top, radix)
	if e != api.OK {
		return whole{}, nil, e
	}
	bot, e = valueOrOne(n.bot, radix)
	if e != api.OK {
		return whole{}, nil, e
	}
	return signed(n.sign == '-', above), bot, api.OK
}

func valueOrOne(digits string, radix int) ([]uint32, api.Errno) {
	if digits == "" {
		return nat.Of(1), api.OK
	}
	return nat.Read(digits, radix)
}
