// Package chars is layer 1: characters of four scripts, and texts of them. See shared/doc/01-chars.md.
package chars

// The letters that the rules of pairs do not cover, or that texts treat apart.
const (
	sharpS        = 0x00DF
	smallYDots    = 0x00FF
	capitalYDots  = 0x0178
	longS         = 0x017F
	capitalSigma  = 0x03A3
	finalSigma    = 0x03C2
	capitalIDot   = 0x0130
	smallIDotless = 0x0131
)

// Up: the capital of a character.
func Up(r rune) rune {
	switch r {
	case finalSigma:
		return capitalSigma
	case longS:
		return 'S'
	case smallYDots:
		return capitalYDots
	}
	return r - capitalBelow(r)
}

// Down: the small letter of a character.
func Down(r rune) rune {
	if r == capitalYDots {
		return smallYDots
	}
	return r + smallAbove(r)
}

// Letter: is it a letter?
func Letter(r rune) bool {
	return capitalBelow(r) != 0 || smallAbove(r) != 0 || alone(r)
}

// Digit: the digit that a character is, -1 if it is none.
func Digit(r rune) int {
	switch {
	case '0' <= r && r <= '9':
		return int(r - '0')
	case 0x0660 <= r && r <= 0x0669:
		return int(r - 0x0660)
	}
	return -1
}

// Blank: is it a blank character?
func Blank(r rune) bool {
	switch r {
	case 0x0009, 0x000A, 0x000B, 0x000C, 0x000D, 0x0020, 0x0085, 0x00A0, 0x2028, 0x2029:
		return true
	}
	return false
}

// capitalBelow answers how far below a small letter of a pair its capital stands, and 0 for every other character.
func capitalBelow(r rune) rune {
	switch {
	case 'a' <= r && r <= 'z':
		return 32
	case 0x00E0 <= r && r <= 0x00FE && r != 0x00F7:
		return 32
	case evenCapitals(r) && r%2 == 1:
		return 1
	case oddCapitals(r) && r%2 == 0:
		return 1
	case 0x03B1 <= r && r <= 0x03C9 && r != finalSigma:
		return 32
	case 0x0430 <= r && r <= 0x044F:
		return 32
	case 0x0450 <= r && r <= 0x045F:
		return 80
	}
	return 0
}

// smallAbove answers how far above a capital of a pair its small letter stands, and 0 for every other character. It asks capitalBelow, so that each range of pairs is written once; no character is a capital at two distances.
func smallAbove(r rune) rune {
	switch {
	case capitalBelow(r+1) == 1:
		return 1
	case capitalBelow(r+32) == 32:
		return 32
	case capitalBelow(r+80) == 80:
		return 80
	}
	return 0
}

// evenCapitals: is r in a run of pairs whose capitals have even numbers?
func evenCapitals(r rune) bool {
	switch {
	case r == capitalIDot || r == smallIDotless:
		return false
	case 0x0100 <= r && r <= 0x0137:
		return true
	}
	return 0x014A <= r && r <= 0x0177
}

// oddCapitals: is r in a run of pairs whose capitals have odd numbers?
func oddCapitals(r rune) bool {
	return 0x0139 <= r && r <= 0x0148 || 0x0179 <= r && r <= 0x017E
}

// alone: is r a letter without a pair?
func alone(r rune) bool {
	switch r {
	case 0x00AA, 0x00B5, 0x00BA, sharpS, smallYDots, capitalIDot, smallIDotless, 0x0138, 0x0149, capitalYDots, longS, finalSigma:
		return true
	}
	return false
}
