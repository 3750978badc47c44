package codec

import (
	"bytes"
	"encoding/binary"
	"regexp"
	"strconv"
	"testing"
	"unicode/utf16"
	"unicode/utf8"

	"sextant/api"
)

var (
	codecs = []int{api.Utf8, api.Latin1, api.Utf16}
	eols   = []int{api.EolNone, api.EolLf, api.EolCr, api.EolCrLf, api.EolNel, api.EolLs}
	modes  = []int{api.Raise, api.Replace, api.Ignore}
)

func coder(codec, eol, mode int) api.Coder {
	return api.Coder{Codec: codec, Eol: eol, Mode: mode}
}

// coders are all transcoders that there are.
func coders() []api.Coder {
	var out []api.Coder
	for _, codec := range codecs {
		for _, eol := range eols {
			for _, mode := range modes {
				out = append(out, coder(codec, eol, mode))
			}
		}
	}
	return out
}

// brief is a text as it is told, with what is long cut off.
func brief(s string) string {
	if len(s) <= 60 {
		return strconv.Quote(s)
	}
	return strconv.Quote(s[:60]) + ".. (" + strconv.Itoa(len(s)) + " bytes)"
}

func checkDecode(t *testing.T, c api.Coder, b []byte, want string, wantAt int, wantErr api.Errno) {
	t.Helper()
	if s, at, e := Decode(c, b); s != want || at != wantAt || e != wantErr {
		t.Errorf("Decode(%v, %s): %s, at %d, error %d; want %s, at %d, error %d", c, brief(string(b)), brief(s), at, e, brief(want), wantAt, wantErr)
	}
}

func checkEncode(t *testing.T, c api.Coder, s string, want []byte, wantAt int, wantErr api.Errno) {
	t.Helper()
	if b, at, e := Encode(c, s); !bytes.Equal(b, want) || at != wantAt || e != wantErr {
		t.Errorf("Encode(%v, %s): %s, at %d, error %d; want %s, at %d, error %d", c, brief(s), brief(string(b)), at, e, brief(string(want)), wantAt, wantErr)
	}
}

// piece is a unit of the tests' own: what stands at a place, and whether it is no character.
type piece struct {
	at  int
	r   rune
	bad bool
}

func piecesOfUtf8(b []byte) []piece {
	var out []piece
	for at := 0; at < len(b); {
		r, n := utf8.DecodeRune(b[at:])
		out = append(out, piece{at, r, r == utf8.RuneError && n == 1})
		at += n
	}
	return out
}

func piecesOfLatin1(b []byte) []piece {
	var out []piece
	for at, x := range b {
		out = append(out, piece{at, rune(x), false})
	}
	return out
}

func piecesOfUtf16(b []byte) []piece {
	var order binary.ByteOrder = binary.BigEndian
	at := 0
	if bytes.HasPrefix(b, []byte{0xFE, 0xFF}) {
		at = 2
	} else if bytes.HasPrefix(b, []byte{0xFF, 0xFE}) {
		order, at = binary.LittleEndian, 2
	}
	var out []piece
	for ; at+1 < len(b); at += 2 {
		r := rune(order.Uint16(b[at:]))
		both := rune(utf8.RuneError)
		if at+3 < len(b) {
			both = utf16.DecodeRune(r, rune(order.Uint16(b[at+2:])))
		}
		if both != utf8.RuneError {
			out = append(out, piece{at, both, false})
			at += 2
			continue
		}
		out = append(out, piece{at, r, utf16.IsSurrogate(r)})
	}
	if at < len(b) {
		out = append(out, piece{at, 0, true})
	}
	return out
}

func piecesOf(codec int, b []byte) []piece {
	switch codec {
	case api.Latin1:
		return piecesOfLatin1(b)
	case api.Utf16:
		return piecesOfUtf16(b)
	}
	return piecesOfUtf8(b)
}

var anyEnd = regexp.MustCompile("\r\n|\r\u0085|\n|\r|\u0085|\u2028")

// plainDecode says P6.2 over again, with all units laid out in a list.
func plainDecode(c api.Coder, b []byte) (string, int, api.Errno) {
	var text []rune
	for _, p := range piecesOf(c.Codec, b) {
		switch {
		case !p.bad:
			text = append(text, p.r)
		case c.Mode == api.Raise:
			return "", p.at, api.ErrCode
		case c.Mode == api.Replace:
			text = append(text, 0xFFFD)
		}
	}
	if c.Eol == api.EolNone {
		return string(text), 0, api.OK
	}
	return anyEnd.ReplaceAllString(string(text), "\n"), 0, api.OK
}

// broken is a list of pieces with the eol for each U+000A.
func broken(eol int, list []piece) []piece {
	ends := map[int][]rune{api.EolNone: {0xA}, api.EolLf: {0xA}, api.EolCr: {0xD}, api.EolCrLf: {0xD, 0xA}, api.EolNel: {0x85}, api.EolLs: {0x2028}}
	var out []piece
	for _, p := range list {
		if p.r != 0xA {
			out = append(out, p)
			continue
		}
		for _, r := range ends[eol] {
			out = append(out, piece{p.at, r, false})
		}
	}
	return out
}

// plainBytes are a character's bytes, if the codec has it.
func plainBytes(codec int, r rune) ([]byte, bool) {
	switch codec {
	case api.Latin1:
		return []byte{byte(r)}, r < 256
	case api.Utf16:
		var out []byte
		for _, x := range utf16.Encode([]rune{r}) {
			out = binary.BigEndian.AppendUint16(out, x)
		}
		return out, true
	}
	return []byte(string(r)), true
}

// plainEncode says P6.3 over again.
func plainEncode(c api.Coder, s string) ([]byte, int, api.Errno) {
	instead := map[int]string{api.Utf8: "\xEF\xBF\xBD", api.Latin1: "?", api.Utf16: "\xFF\xFD"}
	var out []byte
	for _, p := range broken(c.Eol, piecesOfUtf8([]byte(s))) {
		b, ok := plainBytes(c.Codec, p.r)
		switch {
		case ok && !p.bad:
			out = append(out, b...)
		case c.Mode == api.Raise:
			return nil, p.at, api.ErrCode
		case c.Mode == api.Replace:
			out = append(out, instead[c.Codec]...)
		}
	}
	return out, 0, api.OK
}

// checkBoth holds both calls against the tests' own answers.
func checkBoth(t *testing.T, c api.Coder, text string) {
	t.Helper()
	s, at, e := plainDecode(c, []byte(text))
	checkDecode(t, c, []byte(text), s, at, e)
	b, at, e := plainEncode(c, text)
	checkEncode(t, c, text, b, at, e)
}

// everyRow hands on every row of up to most of the pieces.
func everyRow(pieces []string, most int, f func(s string)) {
	var walk func(s string, left int)
	walk = func(s string, left int) {
		f(s)
		if left == 0 {
			return
		}
		for _, p := range pieces {
			walk(s+p, left-1)
		}
	}
	walk("", most)
}

// bytes16 are numbers as bytes, the high one first; lows16 have the low one first.
func bytes16(numbers ...uint16) []byte {
	var out []byte
	for _, x := range numbers {
		out = binary.BigEndian.AppendUint16(out, x)
	}
	return out
}

func lows16(numbers ...uint16) []byte {
	var out []byte
	for _, x := range numbers {
		out = binary.LittleEndian.AppendUint16(out, x)
	}
	return out
}
