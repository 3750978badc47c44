package codec

import (
	"testing"
	"unicode/utf16"
	"unicode/utf8"

	"sextant/api"
)

// outcome is what is made of the same bytes, or of the same text, in the three modes.
type outcome struct {
	in               string
	at               int // of the first fault
	replaced, ignore string
}

func checkFaults(t *testing.T, codec int, o outcome) {
	t.Helper()
	checkDecode(t, coder(codec, api.EolNone, api.Raise), []byte(o.in), "", o.at, api.ErrCode)
	checkDecode(t, coder(codec, api.EolNone, api.Replace), []byte(o.in), o.replaced, 0, api.OK)
	checkDecode(t, coder(codec, api.EolNone, api.Ignore), []byte(o.in), o.ignore, 0, api.OK)
}

// P6.2: every kind of bad byte under Utf8, each a fault of one byte.
func TestUtf8Faults(t *testing.T) {
	for _, o := range []outcome{
		{"\x80", 0, "\ufffd", ""},
		{"\xbf", 0, "\ufffd", ""},
		{"a\x80b", 1, "a\ufffdb", "ab"},
		{"é\xa9", 2, "é\ufffd", "é"},
		{"\xff", 0, "\ufffd", ""},
		{"\xfe\xff", 0, "\ufffd\ufffd", ""},
		{"\xc0\x80", 0, "\ufffd\ufffd", ""},
		{"\xc1\xbf", 0, "\ufffd\ufffd", ""},
		{"\xe0\x80\x80", 0, "\ufffd\ufffd\ufffd", ""},
		{"\xe0\x9f\xbf", 0, "\ufffd\ufffd\ufffd", ""},
		{"\xf0\x80\x80\x80", 0, "\ufffd\ufffd\ufffd\ufffd", ""},
		{"\xf0\x8f\xbf\xbf", 0, "\ufffd\ufffd\ufffd\ufffd", ""},
		{"\xf8\x88\x80\x80\x80", 0, "\ufffd\ufffd\ufffd\ufffd\ufffd", ""},
		{"\xed\xa0\x80", 0, "\ufffd\ufffd\ufffd", ""},
		{"\xed\xbf\xbf", 0, "\ufffd\ufffd\ufffd", ""},
		{"x\xed\xa0\xbd\xed\xb8\x80y", 1, "x\ufffd\ufffd\ufffd\ufffd\ufffd\ufffdy", "xy"},
		{"\xf4\x90\x80\x80", 0, "\ufffd\ufffd\ufffd\ufffd", ""},
		{"\xf5\x80\x80\x80", 0, "\ufffd\ufffd\ufffd\ufffd", ""},
		{"\xf7\xbf\xbf\xbf", 0, "\ufffd\ufffd\ufffd\ufffd", ""},
		{"a\xc3", 1, "a\ufffd", "a"},
		{"a\xe2\x80", 1, "a\ufffd\ufffd", "a"},
		{"a\xf0\x9f\x98", 1, "a\ufffd\ufffd\ufffd", "a"},
		{"\xc3a", 0, "\ufffda", "a"},
		{"\xe2\x80a", 0, "\ufffd\ufffda", "a"},
		{"\xf0\x9f\x98a", 0, "\ufffd\ufffd\ufffda", "a"},
		{"\xf0\x9f\xc3\xa9", 0, "\ufffd\ufffdé", "é"},
		{"\ufffd\xef\xbf", 3, "\ufffd\ufffd\ufffd", "\ufffd"},
		{"\xef\xbf\ufffd", 0, "\ufffd\ufffd\ufffd", "\ufffd"},
		{"\xef\ufffd", 0, "\ufffd\ufffd", "\ufffd"},
		{"\xff\xffa\xff\xff\xff", 0, "\ufffd\ufffda\ufffd\ufffd\ufffd", "a"},
		{"aé\u2028\U0001f600\xff\x80", 10, "aé\u2028\U0001f600\ufffd\ufffd", "aé\u2028\U0001f600"},
	} {
		checkFaults(t, api.Utf8, o)
	}
}

// P6.2: the first and the last character of each length, and next to the surrogates, are no faults; nor is U+FFFD that is written out, or a mark.
func TestUtf8Characters(t *testing.T) {
	for _, s := range []string{
		"", "a", "\x00\x7f", "\u0080\u07ff", "\u0800\ud7ff\ue000\uffff", "\U00010000\U0010ffff",
		"\ufffd", "a\ufffd\ufffd", "\ufeff", "\ufeffa", "a\ufeff\ufffe", "héllo, wörld π \U0001f600",
	} {
		for _, mode := range modes {
			checkDecode(t, coder(api.Utf8, api.EolNone, mode), []byte(s), s, 0, api.OK)
		}
	}
}

// P6.2: all of up to two bytes under each codec, and all of three and four bytes at the ends of their ranges.
func TestShortBytes(t *testing.T) {
	for _, codec := range codecs {
		for _, mode := range modes {
			c := coder(codec, api.EolNone, mode)
			for x := range 1 << 16 {
				checkBoth(t, c, string([]byte{byte(x >> 8), byte(x)}))
			}
			for x := range 256 {
				checkBoth(t, c, string([]byte{byte(x)}))
			}
		}
	}
	ends := "\x00\x7f\x80\x8f\x90\x9f\xa0\xbf\xc0\xc1\xc2\xdf\xe0\xe1\xec\xed\xee\xef\xf0\xf1\xf3\xf4\xf5\xff"
	var pieces []string
	for i := range len(ends) {
		pieces = append(pieces, ends[i:i+1])
	}
	everyRow(pieces, 3, func(s string) {
		for _, mode := range modes {
			checkBoth(t, coder(api.Utf8, api.EolNone, mode), s)
			checkBoth(t, coder(api.Utf8, api.EolNone, mode), "\xf4"+s)
			checkBoth(t, coder(api.Utf8, api.EolNone, mode), "\xf0"+s)
		}
	})
}

// P6.2: every character under Utf8 and under both orders of Utf16.
func TestDecodeEveryCharacter(t *testing.T) {
	for r := rune(0); r <= utf8.MaxRune; r++ {
		if utf16.IsSurrogate(r) {
			continue
		}
		want := "x" + string(r) + "y"
		checkDecode(t, coder(api.Utf8, api.EolNone, api.Raise), []byte(want), want, 0, api.OK)
		numbers := append([]uint16{'x'}, utf16.Encode([]rune{r})...)
		numbers = append(numbers, 'y')
		checkDecode(t, coder(api.Utf16, api.EolNone, api.Raise), bytes16(numbers...), want, 0, api.OK)
		checkDecode(t, coder(api.Utf16, api.EolNone, api.Raise), lows16(append([]uint16{0xFEFF}, numbers...)...), want, 0, api.OK)
	}
}

// P6.2: each byte under Latin1 is a character, and none a fault.
func TestLatin1(t *testing.T) {
	var all []byte
	var text []rune
	for x := range 256 {
		all, text = append(all, byte(x)), append(text, rune(x))
		for _, mode := range modes {
			checkDecode(t, coder(api.Latin1, api.EolNone, mode), []byte{byte(x)}, string(rune(x)), 0, api.OK)
			checkEncode(t, coder(api.Latin1, api.EolNone, mode), string(rune(x)), []byte{byte(x)}, 0, api.OK)
		}
	}
	for _, mode := range modes {
		checkDecode(t, coder(api.Latin1, api.EolNone, mode), all, string(text), 0, api.OK)
		checkEncode(t, coder(api.Latin1, api.EolNone, mode), string(text), all, 0, api.OK)
	}
	for _, b := range []string{"\xfe\xff", "\xff\xfea", "\xef\xbb\xbf", "\xc3\xa9"} {
		checkBoth(t, coder(api.Latin1, api.EolNone, api.Raise), b)
	}
	checkDecode(t, coder(api.Latin1, api.EolNone, api.Raise), []byte("\xfe\xff\xc3\xa9"), "þÿÃ©", 0, api.OK)
}

// P6.2: both marks, none, and marks further on.
func TestUtf16Marks(t *testing.T) {
	for _, c := range []struct{ in, want string }{
		{"\xfe\xff", ""},
		{"\xff\xfe", ""},
		{"\xfe\xff\x00a", "a"},
		{"\xff\xfea\x00", "a"},
		{"\x00a", "a"},
		{"a\x00", "愀"},
		{"\xfe\xff\xfe\xff", "\ufeff"},
		{"\xfe\xff\xff\xfe", "\ufffe"},
		{"\xff\xfe\xff\xfe", "\ufeff"},
		{"\xff\xfe\xfe\xff", "\ufffe"},
		{"\x00a\xfe\xff\x00b", "a\ufeffb"},
		{"\x00a\xff\xfe\x00b", "a\ufffeb"},
		{"\xff\xfea\x00\xff\xfeb\x00", "a\ufeffb"},
		{"\xff\xfea\x00\xfe\xffb\x00", "a\ufffeb"},
		{"\xfe\xff\xd8\x3d\xde\x00", "\U0001f600"},
		{"\xff\xfe\x3d\xd8\x00\xde", "\U0001f600"},
		{"\xd8\x00\xdc\x00", "\U00010000"},
		{"\xdb\xff\xdf\xff", "\U0010ffff"},
		{"\xd8\x00\xdf\xff\xdb\xff\xdc\x00", "\U000103ff\U0010fc00"},
		{"\xd7\xff\xe0\x00\xff\xfd\xff\xff", "\ud7ff\ue000\ufffd\uffff"},
	} {
		for _, mode := range modes {
			checkDecode(t, coder(api.Utf16, api.EolNone, mode), []byte(c.in), c.want, 0, api.OK)
		}
	}
}

// P6.2: lone surrogates of either kind at each place, two first halves in a row, and a last single byte.
func TestUtf16Faults(t *testing.T) {
	for _, o := range []outcome{
		{"\xd8\x00", 0, "\ufffd", ""},
		{"\xdb\xff", 0, "\ufffd", ""},
		{"\xdc\x00", 0, "\ufffd", ""},
		{"\xdf\xff", 0, "\ufffd", ""},
		{"\x00a\xd8\x00", 2, "a\ufffd", "a"},
		{"\x00a\xdc\x00", 2, "a\ufffd", "a"},
		{"\x00a\xd8\x00\x00b", 2, "a\ufffdb", "ab"},
		{"\x00a\xdc\x00\x00b", 2, "a\ufffdb", "ab"},
		{"\xd8\x00\xdb\xff", 0, "\ufffd\ufffd", ""},
		{"\xd8\x3d\xd8\x3d\xde\x00", 0, "\ufffd\U0001f600", "\U0001f600"},
		{"\xd8\x3d\xde\x00\xde\x00", 4, "\U0001f600\ufffd", "\U0001f600"},
		{"\xdc\x00\xd8\x00", 0, "\ufffd\ufffd", ""},
		{"\xdc\x00\xd8\x00\xdc\x00", 0, "\ufffd\U00010000", "\U00010000"},
		{"\xd8\x00\xe0\x00", 0, "\ufffd\ue000", "\ue000"},
		{"\x00", 0, "\ufffd", ""},
		{"\xfe", 0, "\ufffd", ""},
		{"\xff", 0, "\ufffd", ""},
		{"\x00a\x00", 2, "a\ufffd", "a"},
		{"\x00ab", 2, "a\ufffd", "a"},
		{"\xfe\xff\x00", 2, "\ufffd", ""},
		{"\xff\xfe\x00", 2, "\ufffd", ""},
		{"\xff\xfea\x00a", 4, "a\ufffd", "a"},
		{"\xd8\x00\xdc", 0, "\ufffd\ufffd", ""},
		{"\xd8\x3d\xde\x00\xde", 4, "\U0001f600\ufffd", "\U0001f600"},
		{"\xfe\xff\xd8\x00", 2, "\ufffd", ""},
		{"\xff\xfe\x00\xd8", 2, "\ufffd", ""},
		{"\xff\xfe\x00\xdc\x00a", 2, "\ufffd愀", "愀"},
		{"\xff\xfe\x3d\xd8\x00\xde\x00\xd8\x00\xd8", 6, "\U0001f600\ufffd\ufffd", "\U0001f600"},
		{"\xff\xfe\xd8\x00\x00\xdc\xdc\x00", 4, "Ø\ufffdÜ", "ØÜ"},
	} {
		checkFaults(t, api.Utf16, o)
	}
}

// P6.2: every row of up to four numbers at the ends of their kinds, in both orders, with marks and last single bytes.
func TestUtf16Rows(t *testing.T) {
	numbers := []uint16{'a', 0x00D8, 0xD7FF, 0xD800, 0xDBFF, 0xDC00, 0xDFFF, 0xE000, 0xFEFF, 0xFFFE, 0xFFFD}
	var highs, lows []string
	for _, x := range numbers {
		highs, lows = append(highs, string(bytes16(x))), append(lows, string(lows16(x)))
	}
	for _, mode := range modes {
		c := coder(api.Utf16, api.EolNone, mode)
		for _, last := range []string{"", "\x00", "\xd8", "\xdc"} {
			everyRow(highs, 4, func(s string) {
				want, at, e := plainDecode(c, []byte(s+last))
				checkDecode(t, c, []byte(s+last), want, at, e)
			})
			everyRow(lows, 3, func(s string) {
				s = "\xff\xfe" + s + last
				want, at, e := plainDecode(c, []byte(s))
				checkDecode(t, c, []byte(s), want, at, e)
			})
		}
	}
}

// P6.2: the place of the first fault is one of the bytes that were handed in, whatever stands ahead of it.
func TestPlaceOfFault(t *testing.T) {
	for _, eol := range eols {
		for _, c := range []struct {
			codec int
			in    string
			at    int
		}{
			{api.Utf8, "\r\n\xff", 2},
			{api.Utf8, "\r\n\r\n\u0085\u2028\xff\n\xff", 9},
			{api.Utf8, "aé\u2028\U0001f600\r\u0085\x80", 13},
			{api.Utf8, "\r\xff\n", 1},
			{api.Utf8, "\ufeff\xff", 3},
			{api.Utf16, "\x00\r\x00\n\xd8\x00", 4},
			{api.Utf16, "\xfe\xff\x00\r\x00\n\xd8\x00", 6},
			{api.Utf16, "\xff\xfe\r\x00\n\x00\x00", 6},
			{api.Utf16, "\xff\xfe\x3d\xd8\x00\xde\r\x00\x85\x00\x28\x20\x00\xdc\x00\xd8", 12},
		} {
			checkDecode(t, coder(c.codec, eol, api.Raise), []byte(c.in), "", c.at, api.ErrCode)
		}
	}
	for n := range 300 {
		b := make([]byte, n)
		checkDecode(t, coder(api.Utf8, api.EolLf, api.Raise), append(b, 0x80), "", n, api.ErrCode)
		checkDecode(t, coder(api.Utf16, api.EolLf, api.Raise), append(b[:n/2*2], 0xDC, 0, 0xDC), "", n/2*2, api.ErrCode)
	}
}

// P6.2: faults in a row are told one by one, or left out all.
func TestFaultsInARow(t *testing.T) {
	for n := 1; n < 40; n++ {
		bad, odd, want := "", "", ""
		for range n {
			bad, odd, want = bad+"\xff", odd+"\xd8\x00", want+"\ufffd"
		}
		checkFaults(t, api.Utf8, outcome{"a" + bad + "b", 1, "a" + want + "b", "ab"})
		checkFaults(t, api.Utf16, outcome{"\x00a" + odd + "\x00b", 2, "a" + want + "b", "ab"})
	}
}
