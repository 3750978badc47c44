package codec

// Utf16 has each character from firstPaired on as two numbers, a high one and a low one, with halfBits of its bits each.
const (
	highBase    = 0xD800
	lowBase     = 0xDC00
	lowEnd      = 0xE000
	firstPaired = 0x10000
	halfBits    = 10
	halfMask    = 1<<halfBits - 1
)

func isHigh(r rune) bool { return highBase <= r && r < lowBase }

func isLow(r rune) bool { return lowBase <= r && r < lowEnd }

// paired is the character that a high number and a low one are.
func paired(high, low rune) rune {
	return firstPaired + (high-highBase)<<halfBits + (low - lowBase)
}

// halves are the two numbers of a character that is too large for one.
func halves(r rune) (high, low rune) {
	r -= firstPaired
	return highBase + r>>halfBits, lowBase + r&halfMask
}
