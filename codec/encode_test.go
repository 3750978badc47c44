package codec

import (
	"testing"
	"unicode/utf16"
	"unicode/utf8"

	"sextant/api"
)

func checkLeftOut(t *testing.T, codec, eol int, o outcome) {
	t.Helper()
	checkEncode(t, coder(codec, eol, api.Raise), o.in, nil, o.at, api.ErrCode)
	checkEncode(t, coder(codec, eol, api.Replace), o.in, []byte(o.replaced), 0, api.OK)
	checkEncode(t, coder(codec, eol, api.Ignore), o.in, []byte(o.ignore), 0, api.OK)
}

// P6.3: what Latin1 has not, and bad bytes, in the three modes.
func TestEncodeLatin1(t *testing.T) {
	for _, o := range []outcome{
		{"Ā", 0, "?", ""},
		{"ÿĀ", 2, "\xff?", "\xff"},
		{"aπé", 1, "a?\xe9", "a\xe9"},
		{"\U0001f600", 0, "?", ""},
		{"é\U0010ffff\u2028b", 2, "\xe9??b", "\xe9b"},
		{"\xff", 0, "?", ""},
		{"é\xc3", 2, "\xe9?", "\xe9"},
		{"\xed\xa0\x80", 0, "???", ""},
		{"\ufffd", 0, "?", ""},
		{"ab\ufffd\xff", 2, "ab??", "ab"},
		{"\n\nĀ", 2, "\n\n?", "\n\n"},
		{"\u0100\u0200\u1041\uff41", 0, "????", ""},
	} {
		checkLeftOut(t, api.Latin1, api.EolNone, o)
	}
	for _, mode := range modes {
		checkEncode(t, coder(api.Latin1, api.EolNone, mode), "a?\u00fe\u00ff", []byte("a?\xfe\xff"), 0, api.OK)
	}
}

// P6.3: an eol that Latin1 has not is told at the place of its line end.
func TestEolThatLatin1HasNot(t *testing.T) {
	for _, o := range []outcome{
		{"\n", 0, "?", ""},
		{"a\n", 1, "a?", "a"},
		{"é\nb\n", 2, "\xe9?b?", "\xe9b"},
		{"\r\n\n", 1, "\r??", "\r"},
		{"é\xff\n", 2, "\xe9??", "\xe9"},
		{"éÿ\n\xff", 4, "\xe9\xff??", "\xe9\xff"},
	} {
		checkLeftOut(t, api.Latin1, api.EolLs, o)
	}
	for _, eol := range []int{api.EolNone, api.EolLf, api.EolCr, api.EolCrLf, api.EolNel} {
		checkEncode(t, coder(api.Latin1, eol, api.Raise), "\n\nĀ", nil, 2, api.ErrCode)
	}
}

// P6.3: bad bytes under the codecs that have every character, told from U+FFFD that is written out.
func TestEncodeBadBytes(t *testing.T) {
	for _, o := range []struct {
		in                         string
		at                         int
		utf8, utf8Out, utf16, left string
	}{
		{"\xff", 0, "\ufffd", "", "\xff\xfd", ""},
		{"a\xff", 1, "a\ufffd", "a", "\x00a\xff\xfd", "\x00a"},
		{"\x80\x80b", 0, "\ufffd\ufffdb", "b", "\xff\xfd\xff\xfd\x00b", "\x00b"},
		{"é\U0001f600\xf0\x9f", 6, "é\U0001f600\ufffd\ufffd", "é\U0001f600", "\x00\xe9\xd8\x3d\xde\x00\xff\xfd\xff\xfd", "\x00\xe9\xd8\x3d\xde\x00"},
		{"\xed\xa0\x80", 0, "\ufffd\ufffd\ufffd", "", "\xff\xfd\xff\xfd\xff\xfd", ""},
		{"\ufffd\xff", 3, "\ufffd\ufffd", "\ufffd", "\xff\xfd\xff\xfd", "\xff\xfd"},
		{"\ufffd\xef\xbf", 3, "\ufffd\ufffd\ufffd", "\ufffd", "\xff\xfd\xff\xfd\xff\xfd", "\xff\xfd"},
		{"\xef\xbf\ufffd", 0, "\ufffd\ufffd\ufffd", "\ufffd", "\xff\xfd\xff\xfd\xff\xfd", "\xff\xfd"},
		{"\xc0\x80", 0, "\ufffd\ufffd", "", "\xff\xfd\xff\xfd", ""},
		{"\xf4\x90\x80\x80", 0, "\ufffd\ufffd\ufffd\ufffd", "", "\xff\xfd\xff\xfd\xff\xfd\xff\xfd", ""},
	} {
		checkLeftOut(t, api.Utf8, api.EolNone, outcome{o.in, o.at, o.utf8, o.utf8Out})
		checkLeftOut(t, api.Utf16, api.EolNone, outcome{o.in, o.at, o.utf16, o.left})
	}
	for _, mode := range modes {
		checkEncode(t, coder(api.Utf8, api.EolNone, mode), "a\ufffd\ufffd", []byte("a\ufffd\ufffd"), 0, api.OK)
		checkEncode(t, coder(api.Utf16, api.EolNone, mode), "a\ufffd", []byte("\x00a\xff\xfd"), 0, api.OK)
	}
}

// P6.3: the high byte comes first, one pair of bytes or two, and no mark is written ahead.
func TestEncodeUtf16(t *testing.T) {
	for _, c := range []struct{ in, want string }{
		{"a", "\x00a"},
		{"\x00", "\x00\x00"},
		{"\u1234", "\x12\x34"},
		{"\ud7ff\ue000", "\xd7\xff\xe0\x00"},
		{"\uffff", "\xff\xff"},
		{"\U00010000", "\xd8\x00\xdc\x00"},
		{"\U000103ff", "\xd8\x00\xdf\xff"},
		{"\U00010400", "\xd8\x01\xdc\x00"},
		{"\U0001f600a", "\xd8\x3d\xde\x00\x00a"},
		{"\U0010ffff", "\xdb\xff\xdf\xff"},
		{"\ufeffa", "\xfe\xff\x00a"},
		{"\ufffea", "\xff\xfe\x00a"},
	} {
		for _, mode := range modes {
			checkEncode(t, coder(api.Utf16, api.EolNone, mode), c.in, []byte(c.want), 0, api.OK)
		}
	}
}

// P6.3: every character under each codec, between others.
func TestEncodeEveryCharacter(t *testing.T) {
	for r := rune(0); r <= utf8.MaxRune; r++ {
		if utf16.IsSurrogate(r) {
			continue
		}
		s := "é" + string(r) + "b"
		for _, codec := range codecs {
			c := coder(codec, api.EolNone, api.Raise)
			b, at, e := plainEncode(c, s)
			checkEncode(t, c, s, b, at, e)
		}
	}
}

// P6.3: the place of the first fault is one in the text that was handed in, however long the line ends ahead of it have become.
func TestPlaceInText(t *testing.T) {
	for _, codec := range codecs {
		for eol := api.EolNone; eol <= api.EolNel; eol++ {
			for _, o := range []struct {
				in string
				at int
			}{
				{"\n\xff", 1}, {"\n\n\n\xff\xff", 3}, {"é\n\xff", 3}, {"\r\n\u0085\n\xff", 5}, {"\xff\n", 0},
			} {
				checkEncode(t, coder(codec, eol, api.Raise), o.in, nil, o.at, api.ErrCode)
			}
		}
	}
	for n := range 300 {
		checkEncode(t, coder(api.Utf16, api.EolCrLf, api.Raise), string(make([]byte, n))+"\x80", nil, n, api.ErrCode)
	}
}

// P6.3: every text of up to four pieces, in all transcoders.
func TestEveryShortText(t *testing.T) {
	pieces := []string{"a", "\n", "\r", "ÿ", "Ā", "\ufffd", "\U0001f600", "\xef", "\xbf", "\x80"}
	everyRow(pieces, 4, func(s string) {
		for _, c := range coders() {
			b, at, e := plainEncode(c, s)
			checkEncode(t, c, s, b, at, e)
		}
	})
}
