package codec

import (
	"unicode/utf8"

	"sextant/api"
)

// lastOfLatin1 is the last character that a single byte is.
const lastOfLatin1 = 0xFF

// has: has the codec this character?
func has(codec int, r rune) bool {
	return codec != api.Latin1 || r <= lastOfLatin1
}

// substitute is what a codec writes for what it has not; it has the substitute.
func substitute(codec int) rune {
	if codec == api.Latin1 {
		return '?'
	}
	return utf8.RuneError
}

// appended is b with the bytes of a character that the codec has behind it.
func appended(codec int, b []byte, r rune) []byte {
	switch codec {
	case api.Latin1:
		return append(b, byte(r))
	case api.Utf16:
		return appendedUtf16(b, r)
	}
	return utf8.AppendRune(b, r)
}

func appendedUtf16(b []byte, r rune) []byte {
	if r < firstPaired {
		return append(b, byte(r>>8), byte(r))
	}
	high, low := halves(r)
	return append(b, byte(high>>8), byte(high), byte(low>>8), byte(low))
}
