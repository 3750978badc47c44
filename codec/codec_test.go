package codec

import (
	"bytes"
	"math"
	"math/rand"
	"slices"
	"strings"
	"testing"
	"unicode/utf16"
	"unicode/utf8"

	"sextant/api"
)

// The chapter's examples.
func TestExamples(t *testing.T) {
	checkDecode(t, coder(api.Utf8, api.EolCrLf, api.Raise), []byte{0x61, 0x0D, 0x0A, 0x62}, "a\nb", 0, api.OK)
	checkDecode(t, coder(api.Utf8, api.EolNone, api.Raise), []byte{0x61, 0xFF}, "", 1, api.ErrCode)
	checkDecode(t, coder(api.Utf8, api.EolNone, api.Replace), []byte{0x61, 0xFF}, "a\ufffd", 0, api.OK)
	checkDecode(t, coder(api.Utf8, api.EolNone, api.Ignore), []byte{0x61, 0xFF}, "a", 0, api.OK)
	checkDecode(t, coder(api.Utf16, api.EolNone, api.Raise), []byte{0xFF, 0xFE, 0x61, 0x00}, "a", 0, api.OK)
	checkDecode(t, coder(api.Utf16, api.EolNone, api.Raise), []byte{0xD8, 0x00}, "", 0, api.ErrCode)
	checkEncode(t, coder(api.Latin1, api.EolNel, api.Raise), "é\n", []byte{0xE9, 0x85}, 0, api.OK)
	checkEncode(t, coder(api.Latin1, api.EolLs, api.Raise), "a\n", nil, 1, api.ErrCode)
}

// aroundConstants are numbers in, next to and far from those that the constants have.
func aroundConstants() []int {
	return []int{math.MinInt, math.MinInt32, -256, -2, -1, 0, 1, 2, 3, 4, 5, 6, 7, 256, 257, math.MaxInt32, 1 << 32, 1<<32 + 1, math.MaxInt}
}

// P6.1: each of the three just below, at and just beyond its constants, beside sound ones and wrong ones.
func TestCheck(t *testing.T) {
	for _, codec := range aroundConstants() {
		for _, eol := range aroundConstants() {
			for _, mode := range aroundConstants() {
				want := api.ErrArg
				if slices.Contains(codecs, codec) && slices.Contains(eols, eol) && slices.Contains(modes, mode) {
					want = api.OK
				}
				if got := Check(coder(codec, eol, mode)); got != want {
					t.Errorf("Check(%d, %d, %d) = %d, want %d", codec, eol, mode, got, want)
				}
			}
		}
	}
	for _, c := range []struct {
		c    api.Coder
		want api.Errno
	}{
		{coder(0, 0, 0), api.ErrArg}, {coder(1, 0, 0), api.OK}, {coder(3, 5, 2), api.OK}, {coder(4, 5, 2), api.ErrArg},
		{coder(1, -1, 0), api.ErrArg}, {coder(1, 6, 0), api.ErrArg}, {coder(1, 0, -1), api.ErrArg}, {coder(1, 0, 3), api.ErrArg},
	} {
		if got := Check(c.c); got != c.want {
			t.Errorf("Check(%v) = %d, want %d", c.c, got, c.want)
		}
	}
}

// wrongCoders are none, each by one of its three alone or by all.
func wrongCoders() []api.Coder {
	out := []api.Coder{{}, coder(0, -1, -1), coder(4, 6, 3)}
	for _, x := range aroundConstants() {
		for _, c := range []api.Coder{coder(x, api.EolLs, api.Raise), coder(api.Utf8, x, api.Replace), coder(api.Latin1, api.EolCr, x)} {
			if Check(c) != api.OK {
				out = append(out, c)
			}
		}
	}
	return out
}

// P6.2, P6.3: a wrong transcoder is told ahead of what is too long, and of any fault.
func TestWrongCoder(t *testing.T) {
	long := strings.Repeat("\xff", api.MaxBytes+1)
	for _, c := range wrongCoders() {
		for _, s := range []string{"", "a", "a\n", "a\xff", long} {
			checkDecode(t, c, []byte(s), "", 0, api.ErrArg)
			checkEncode(t, c, s, nil, 0, api.ErrArg)
		}
		checkDecode(t, c, nil, "", 0, api.ErrArg)
	}
}

// P6.2, P6.3: no bytes and no text.
func TestNothing(t *testing.T) {
	for _, c := range coders() {
		checkDecode(t, c, nil, "", 0, api.OK)
		checkDecode(t, c, []byte{}, "", 0, api.OK)
		checkDecode(t, c, []byte("\xff\xff")[:0], "", 0, api.OK)
		checkEncode(t, c, "", nil, 0, api.OK)
	}
}

// P6.2, P6.3: MaxBytes bytes are gone through, whatever comes of them, and one more is not, be it sound or not.
func TestLimit(t *testing.T) {
	for _, part := range []string{"a", "\r\n", "\xff", "\ufffd\xd8", "\u2028"} {
		full := strings.Repeat(part, api.MaxBytes)[:api.MaxBytes]
		for _, c := range coders() {
			if c.Eol == api.EolNone || c.Eol == api.EolCrLf {
				checkBoth(t, c, full)
			}
			for _, more := range []string{full + "a", full + "\xff", "\xff" + full, full + full} {
				checkDecode(t, c, []byte(more), "", 0, api.ErrLarge)
				checkEncode(t, c, more, nil, 0, api.ErrLarge)
			}
		}
	}
}

// P6.2, P6.3: the limits written out, and answers that are longer than what was handed in.
func TestLongest(t *testing.T) {
	const most = 65536
	bad := bytes.Repeat([]byte{0xFF}, most)
	checkDecode(t, coder(api.Utf8, api.EolNone, api.Raise), bad, "", 0, api.ErrCode)
	checkDecode(t, coder(api.Utf8, api.EolNone, api.Replace), bad, strings.Repeat("\ufffd", most), 0, api.OK)
	checkDecode(t, coder(api.Utf8, api.EolNone, api.Ignore), bad, "", 0, api.OK)
	checkDecode(t, coder(api.Latin1, api.EolNone, api.Raise), bad, strings.Repeat("ÿ", most), 0, api.OK)
	checkEncode(t, coder(api.Utf8, api.EolNone, api.Replace), string(bad), []byte(strings.Repeat("\ufffd", most)), 0, api.OK)
	checkEncode(t, coder(api.Utf8, api.EolLs, api.Raise), strings.Repeat("\n", most), []byte(strings.Repeat("\u2028", most)), 0, api.OK)
	checkEncode(t, coder(api.Utf16, api.EolCrLf, api.Raise), strings.Repeat("\n", most), bytes.Repeat([]byte{0, 0xD, 0, 0xA}, most), 0, api.OK)
	last := append(bytes.Repeat([]byte{'a'}, most-1), 0xFF)
	checkDecode(t, coder(api.Utf8, api.EolLf, api.Raise), last, "", most-1, api.ErrCode)
	checkEncode(t, coder(api.Latin1, api.EolLf, api.Raise), string(last), nil, most-1, api.ErrCode)
	checkEncode(t, coder(api.Latin1, api.EolLf, api.Ignore), strings.Repeat("\u2028", most), nil, 0, api.ErrLarge)
}

// comesBack: does the chapter say that Decode of Encode is s?
func comesBack(c api.Coder, s string) bool {
	if c.Eol != api.EolNone && strings.ContainsAny(s, "\r\u0085\u2028") {
		return false
	}
	return c.Codec != api.Utf16 || !strings.HasPrefix(s, "\ufeff") && !strings.HasPrefix(s, "\ufffe")
}

// checkBack: what Encode answers with Raise is read back, in each of the modes.
func checkBack(t *testing.T, codec, eol int, s string) {
	t.Helper()
	c := coder(codec, eol, api.Raise)
	b, _, e := Encode(c, s)
	if e != api.OK || !comesBack(c, s) || len(b) > api.MaxBytes {
		return
	}
	for _, mode := range modes {
		checkDecode(t, coder(codec, eol, mode), b, s, 0, api.OK)
	}
}

// allCharacters are texts of some characters each, with line feeds between, which have every character once.
func allCharacters() []string {
	var out []string
	text := []rune{'x'}
	for r := rune(0); r <= utf8.MaxRune; r++ {
		if !utf16.IsSurrogate(r) && !strings.ContainsRune("\r\u0085\u2028", r) {
			text = append(text, r, '\n')
		}
		if r%64 == 63 {
			out, text = append(out, string(text)), []rune{'x'}
		}
	}
	return append(out, "x\r", "x\u0085", "x\u2028")
}

// What follows: Decode of Encode.
func TestThereAndBack(t *testing.T) {
	pieces := []string{"a", "\n", "\r", "\u0085", "\u2028", "é", "Ā", "\ufeff", "\ufffe", "\ufffd", "\U0010ffff", "\x00"}
	texts := allCharacters()
	for _, codec := range codecs {
		for _, eol := range eols {
			everyRow(pieces, 3, func(s string) { checkBack(t, codec, eol, s) })
			for _, s := range texts {
				checkBack(t, codec, eol, s)
			}
		}
	}
}

// What follows, the other way: what the chapter leaves out does not come back.
func TestNotBack(t *testing.T) {
	for _, c := range []struct {
		codec, eol int
		s, back    string
	}{
		{api.Utf16, api.EolNone, "\ufeffa", "a"},
		{api.Utf16, api.EolNone, "\ufffea", "愀"},
		{api.Utf8, api.EolNone, "\ufeffa\ufffe", "\ufeffa\ufffe"},
		{api.Utf8, api.EolLf, "a\r\n\u0085\u2028\r", "a\n\n\n\n"},
		{api.Utf8, api.EolNone, "a\r\n\u0085\u2028\r", "a\r\n\u0085\u2028\r"},
		{api.Latin1, api.EolCr, "\n\r\n\u0085", "\n\n\n"},
		{api.Utf16, api.EolCr, "\n\n", "\n\n"},
		{api.Utf16, api.EolNel, "\r\n", "\n"},
	} {
		b, _, e := Encode(coder(c.codec, c.eol, api.Raise), c.s)
		if e != api.OK {
			t.Errorf("Encode(%q): error %d", c.s, e)
		}
		checkDecode(t, coder(c.codec, c.eol, api.Raise), b, c.back, 0, api.OK)
	}
}

// P6.2, P6.3: some bytes, of few kinds and of all.
func TestSomeBytes(t *testing.T) {
	r := rand.New(rand.NewSource(6))
	few := "\r\n\x85\xc2\xe2\x80\xa8\xff\xfe\xd8\xdc\x00a\xef\xbf\xbd"
	for range 400 {
		b := make([]byte, r.Intn(80))
		for i := range b {
			b[i] = few[r.Intn(len(few))]
			if r.Intn(6) == 0 {
				b[i] = byte(r.Intn(256))
			}
		}
		for _, c := range coders() {
			checkBoth(t, c, string(b))
			checkBack(t, c.Codec, c.Eol, strings.ToValidUTF8(string(b), "x"))
		}
	}
}

// FuzzBytes holds both calls, with each transcoder, against the tests' own answers.
func FuzzBytes(f *testing.F) {
	f.Add([]byte("a\r\n\u0085\u2028\xff"))
	f.Add([]byte("\xff\xfea\x00\x3d\xd8\x00\xde\x00"))
	f.Add([]byte("\xfe\xff\xd8\x00\xd8\x00\xdc\x00\x00\r\x00\n"))
	f.Fuzz(func(t *testing.T, b []byte) {
		if len(b) > api.MaxBytes {
			return
		}
		for _, c := range coders() {
			checkBoth(t, c, string(b))
			checkBack(t, c.Codec, c.Eol, string(b))
		}
	})
}
