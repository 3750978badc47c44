package exact

import (
	"sextant/api"
	"sextant/nat"
)

// Text: as it is written.
func Text(a api.Num, radix int) (string, api.Errno) {
	if !Sound(a) {
		return "", api.ErrForm
	}
	if !isRadix(radix) {
		return "", api.ErrArg
	}
	if isReal(a) {
		return realText(a.Re, radix), api.OK
	}
	imaginary := signOf(a.Im) + unlessOne(a.Im, radix) + "i"
	if len(a.Re.Top) == 0 {
		return imaginary, api.OK
	}
	return realText(a.Re, radix) + imaginary, api.OK
}

func isRadix(radix int) bool {
	switch radix {
	case 2, 8, 10, 16:
		return true
	}
	return false
}

func realText(r api.Rat, radix int) string {
	if r.Neg {
		return "-" + sizeText(r, radix)
	}
	return sizeText(r, radix)
}

func signOf(r api.Rat) string {
	if r.Neg {
		return "-"
	}
	return "+"
}

// unlessOne leaves it to the sign to say 1.
func unlessOne(r api.Rat, radix int) string {
	if isOne(r.Top) && isOne(r.Bot) {
		return ""
	}
	return sizeText(r, radix)
}

// sizeText writes a fraction without its sign.
func sizeText(r api.Rat, radix int) string {
	top, _ := nat.Text(r.Top, radix)
	if isOne(r.Bot) {
		return top
	}
	bot, _ := nat.Text(r.Bot, radix)
	return top + "/" + bot
}
