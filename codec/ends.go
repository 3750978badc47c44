package codec

import (
	"strings"

	"sextant/api"
)

// The characters that end lines.
const (
	lineFeed       = '\n'
	carriageReturn = '\r'
	nextLine       = 0x0085
	lineSeparator  = 0x2028
)

// withPlainEnds is a text with a line feed for each of the line ends.
func withPlainEnds(s string) string {
	var b strings.Builder
	ahead := rune(0)
	for _, r := range s {
		switch {
		case ahead == carriageReturn && (r == lineFeed || r == nextLine):
			// The carriage return has been told already, and the two are one line end.
		case endsLine(r):
			b.WriteRune(lineFeed)
		default:
			b.WriteRune(r)
		}
		ahead = r
	}
	return b.String()
}

func endsLine(r rune) bool {
	switch r {
	case lineFeed, carriageReturn, nextLine, lineSeparator:
		return true
	}
	return false
}

// lineEnd is what an eol style writes for a line feed.
func lineEnd(eol int) string {
	switch eol {
	case api.EolCr:
		return "\r"
	case api.EolCrLf:
		return "\r\n"
	case api.EolNel:
		return "\u0085"
	case api.EolLs:
		return "\u2028"
	}
	return "\n"
}

// eachWithEnds tells the characters and the bad bytes of a text, and for each line feed the characters of end, all at its place.
func eachWithEnds(s, end string, visit visitor) {
	eachOfUtf8(s, func(at int, r rune) bool {
		if r != lineFeed {
			return visit(at, r)
		}
		for _, x := range end {
			if !visit(at, x) {
				return false
			}
		}
		return true
	})
}
