package codec

import (
	"testing"

	"sextant/api"
)

// sixEnds are the line ends as they are read.
func sixEnds() []string {
	return []string{"\r\n", "\r\u0085", "\n", "\r", "\u0085", "\u2028"}
}

// codedIn is a text as a codec has it, and false if it has it not.
func codedIn(codec int, s string) ([]byte, bool) {
	b, _, e := plainEncode(coder(codec, api.EolNone, api.Raise), s)
	return b, e == api.OK
}

// P6.2: each line end becomes one U+000A with every eol style but EolNone, which leaves it.
func TestEachEnd(t *testing.T) {
	for _, codec := range codecs {
		for _, end := range sixEnds() {
			b, ok := codedIn(codec, "a"+end+"b"+end)
			if !ok {
				continue
			}
			for _, mode := range modes {
				checkDecode(t, coder(codec, api.EolNone, mode), b, "a"+end+"b"+end, 0, api.OK)
				for eol := api.EolLf; eol <= api.EolLs; eol++ {
					checkDecode(t, coder(codec, eol, mode), b, "a\nb\n", 0, api.OK)
				}
			}
		}
	}
}

// P6.2: line ends next to each other, where two are one and where they are not.
func TestEndsInARow(t *testing.T) {
	for _, c := range []struct{ in, want string }{
		{"\r", "\n"},
		{"a\r", "a\n"},
		{"\r\r", "\n\n"},
		{"\r\r\n", "\n\n"},
		{"\r\r\u0085", "\n\n"},
		{"\r\n\n", "\n\n"},
		{"\r\n\r\n", "\n\n"},
		{"\r\n\u0085", "\n\n"},
		{"\r\u0085\n", "\n\n"},
		{"\r\u0085\u0085", "\n\n"},
		{"\r\u2028", "\n\n"},
		{"\n\r", "\n\n"},
		{"\u0085\r", "\n\n"},
		{"\u0085\n", "\n\n"},
		{"\u2028\n", "\n\n"},
		{"\u2028\r\n", "\n\n"},
		{"\r\n\r", "\n\n"},
		{"\ra\n", "\na\n"},
		{"\v\f\u2029\u0084\u0086\u2027", "\v\f\u2029\u0084\u0086\u2027"},
	} {
		for _, codec := range codecs {
			b, ok := codedIn(codec, c.in)
			if !ok {
				continue
			}
			for eol := api.EolLf; eol <= api.EolLs; eol++ {
				checkDecode(t, coder(codec, eol, api.Raise), b, c.want, 0, api.OK)
			}
			checkDecode(t, coder(codec, api.EolNone, api.Raise), b, c.in, 0, api.OK)
		}
	}
}

// P6.2, P6.3: each of the six ahead of and behind each other, with other characters and faults between, in all transcoders.
func TestEveryRowOfEnds(t *testing.T) {
	pieces := append(sixEnds(), "a", "é", "\u2029", "\xff")
	everyRow(pieces, 3, func(s string) {
		for _, c := range coders() {
			checkBoth(t, c, s)
			b, _ := codedIn(c.Codec, s)
			want, at, e := plainDecode(c, b)
			checkDecode(t, c, b, want, at, e)
		}
	})
}

// P6.2: line ends come behind faults, so that a fault that is left out does not stand between the two halves of one.
func TestFaultBetweenHalves(t *testing.T) {
	for _, c := range []struct {
		codec int
		in    string
	}{
		{api.Utf8, "\r\xff\n"}, {api.Utf8, "\r\xff\x80\u0085"}, {api.Utf16, "\x00\r\xd8\x00\x00\n"}, {api.Utf16, "\xff\xfe\r\x00\x00\xdc\x85\x00"},
	} {
		for eol := api.EolLf; eol <= api.EolLs; eol++ {
			checkDecode(t, coder(c.codec, eol, api.Ignore), []byte(c.in), "\n", 0, api.OK)
		}
	}
	checkDecode(t, coder(api.Utf8, api.EolLf, api.Replace), []byte("\r\xff\n"), "\n\ufffd\n", 0, api.OK)
	checkDecode(t, coder(api.Utf8, api.EolNone, api.Ignore), []byte("\r\xff\n"), "\r\n", 0, api.OK)
}

// P6.3: each U+000A becomes the eol, and no other character does.
func TestWrittenEnds(t *testing.T) {
	for _, c := range []struct {
		eol                 int
		utf8, latin1, utf16 string
	}{
		{api.EolNone, "\n", "\n", "\x00\n"},
		{api.EolLf, "\n", "\n", "\x00\n"},
		{api.EolCr, "\r", "\r", "\x00\r"},
		{api.EolCrLf, "\r\n", "\r\n", "\x00\r\x00\n"},
		{api.EolNel, "\xc2\x85", "\x85", "\x00\x85"},
		{api.EolLs, "\xe2\x80\xa8", "?", "\x20\x28"},
	} {
		for codec, end := range map[int]string{api.Utf8: c.utf8, api.Latin1: c.latin1, api.Utf16: c.utf16} {
			with := func(mode int) api.Coder { return coder(codec, c.eol, mode) }
			checkEncode(t, with(api.Replace), "\n", []byte(end), 0, api.OK)
			checkEncode(t, with(api.Replace), "\n\n\n", []byte(end+end+end), 0, api.OK)
			left, _ := codedIn(codec, "a\r\u0085b")
			checkEncode(t, with(api.Replace), "a\r\u0085b\n", []byte(string(left)+end), 0, api.OK)
			if end != "?" {
				checkEncode(t, with(api.Raise), "\n\n", []byte(end+end), 0, api.OK)
				checkEncode(t, with(api.Ignore), "\n\n", []byte(end+end), 0, api.OK)
			}
		}
	}
	checkEncode(t, coder(api.Utf8, api.EolCrLf, api.Raise), "\r\n", []byte("\r\r\n"), 0, api.OK)
	checkEncode(t, coder(api.Utf8, api.EolLf, api.Raise), "\r\n\u0085\u2028", []byte("\r\n\u0085\u2028"), 0, api.OK)
}
