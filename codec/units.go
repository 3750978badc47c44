package codec

import (
	"strings"
	"unicode/utf8"

	"sextant/api"
)

// fault stands in a unit for what is no character: no character is below 0.
const fault rune = -1

// The marks that tell under Utf16 which byte of two comes first.
const (
	highFirstMark = "\xfe\xff"
	lowFirstMark  = "\xff\xfe"
)

// visitor is told a unit, and at which byte it begins; it answers whether it wants the next one.
type visitor func(at int, r rune) bool

// eachUnit tells the units that a codec takes of some bytes, from the left.
func eachUnit(codec int, b string, visit visitor) {
	switch codec {
	case api.Utf8:
		eachOfUtf8(b, visit)
	case api.Latin1:
		eachOfLatin1(b, visit)
	case api.Utf16:
		eachOfUtf16(b, visit)
	}
}

func eachOfUtf8(s string, visit visitor) {
	for at, r := range s {
		if r == utf8.RuneError && !strings.HasPrefix(s[at:], string(utf8.RuneError)) {
			r = fault
		}
		if !visit(at, r) {
			return
		}
	}
}

func eachOfLatin1(b string, visit visitor) {
	for at := range len(b) {
		if !visit(at, rune(b[at])) {
			return
		}
	}
}

func eachOfUtf16(b string, visit visitor) {
	at, number := 0, highFirst
	switch {
	case strings.HasPrefix(b, highFirstMark):
		at = len(highFirstMark)
	case strings.HasPrefix(b, lowFirstMark):
		at, number = len(lowFirstMark), lowFirst
	}
	for at < len(b) {
		r, size := firstOfUtf16(b[at:], number)
		if !visit(at, r) {
			return
		}
		at += size
	}
}

// highFirst and lowFirst are the two ways in which two bytes are a number.
func highFirst(b string) rune { return rune(b[0])<<8 | rune(b[1]) }

func lowFirst(b string) rune { return rune(b[1])<<8 | rune(b[0]) }

// firstOfUtf16 is the unit at the beginning of bytes that are not empty, and how many of them it takes.
func firstOfUtf16(b string, number func(b string) rune) (r rune, size int) {
	if len(b) < 2 {
		return fault, 1
	}
	first := number(b)
	if !isHigh(first) && !isLow(first) {
		return first, 2
	}
	if isHigh(first) && len(b) >= 4 && isLow(number(b[2:])) {
		return paired(first, number(b[2:])), 4
	}
	return fault, 2
}
