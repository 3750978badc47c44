package ports

import (
	"math"
	"strings"
	"testing"

	"sextant/api"
)

// P20.3: what is no transcoder, and a buffer below 0; each alone and both.
func TestCreateRefuses(t *testing.T) {
	for _, c := range wrongCoders() {
		for _, buffer := range []int{math.MinInt, -1, 0, 1, math.MaxInt} {
			if p, e := Create(c, buffer); p != nil || e != api.ErrArg {
				t.Errorf("Create(%v, %d): %v, error %d", c, buffer, p, e)
			}
		}
	}
	for _, c := range coders() {
		for _, buffer := range []int{math.MinInt, math.MinInt32, -2, -1} {
			if p, e := Create(c, buffer); p != nil || e != api.ErrArg {
				t.Errorf("Create(%v, %d): %v, error %d", c, buffer, p, e)
			}
		}
	}
}

// P20.3: each transcoder with buffers of 0, of some and of as many as there are numbers: nothing has been written at first, and nothing by Flush.
func TestCreate(t *testing.T) {
	for _, c := range coders() {
		for _, buffer := range []int{0, 1, 2, 100, api.MaxBytes, api.MaxBytes + 1, math.MaxInt} {
			x := created(t, c, buffer)
			x.flushed("")
			x.write("a", api.OK)
			want := "a"
			if c.Codec == api.Utf16 {
				want = "\x00a"
			}
			if len(want) <= buffer {
				x.has("")
			} else {
				x.has(want)
			}
			x.flushed(want)
		}
	}
}

// P20.3: the buffer is filled just, and gone beyond by one: then all is flushed.
func TestBuffer(t *testing.T) {
	x := created(t, raising, 3)
	x.write("ab", api.OK)
	x.has("")
	x.write("c", api.OK)
	x.has("")
	x.write("", api.OK)
	x.has("")
	x.write("d", api.OK)
	x.has("abcd")
	x.write("efg", api.OK)
	x.has("abcd")
	x.write("hijklmn", api.OK)
	x.has("abcdefghijklmn")
	x.write("o", api.OK)
	x.flushed("abcdefghijklmno")
	x.write("pqr", api.OK)
	x.has("abcdefghijklmno")
	x.write("s", api.OK)
	x.has("abcdefghijklmnopqrs")
	x.flushed("abcdefghijklmnopqrs")
	x = created(t, raising, 0)
	x.write("", api.OK)
	x.write("a", api.OK)
	x.has("a")
	x.write("bc", api.OK)
	x.has("abc")
	x = created(t, raising, 1)
	x.write("a", api.OK)
	x.has("")
	x.write("b", api.OK)
	x.has("ab")
	x.write("cd", api.OK)
	x.has("abcd")
}

// P20.3: the buffer is of bytes that are written, not of characters, nor of the text's bytes.
func TestBufferIsOfBytes(t *testing.T) {
	for _, one := range []struct {
		codec, eol int
		s, want    string
	}{
		{api.Utf8, api.EolNone, "\U0001f600", "\U0001f600"},
		{api.Utf8, api.EolLs, "\n", "\u2028"},
		{api.Latin1, api.EolNone, "éé", "\xe9\xe9"},
		{api.Latin1, api.EolCrLf, "é\n", "\xe9\r\n"},
		{api.Utf16, api.EolNone, "a", "\x00a"},
		{api.Utf16, api.EolNone, "\u2028", "\x20\x28"},
		{api.Utf16, api.EolNone, "\U0001f600", "\xd8\x3d\xde\x00"},
		{api.Utf16, api.EolCrLf, "\n", "\x00\r\x00\n"},
	} {
		c := coder(one.codec, one.eol, api.Raise)
		x := created(t, c, len(one.want)-1)
		x.write(one.s, api.OK)
		x.has(one.want)
		x = created(t, c, len(one.want))
		x.write(one.s, api.OK)
		x.has("")
		x.flushed(one.want)
	}
}

// P20.3: what can't be encoded, and bad bytes, in each mode; with Raise nothing of that Write is written, and what was kept back stays.
func TestWriteFaults(t *testing.T) {
	for _, one := range []struct {
		codec             int
		s, replaced, left string
	}{
		{api.Latin1, "aπb", "a?b", "ab"},
		{api.Latin1, "π", "?", ""},
		{api.Latin1, "ab\xff", "ab?", "ab"},
		{api.Latin1, "\ufffd", "?", ""},
		{api.Utf8, "a\xffb", "a\ufffdb", "ab"},
		{api.Utf8, "\xc3", "\ufffd", ""},
		{api.Utf16, "\xed\xa0\x80", "\xff\xfd\xff\xfd\xff\xfd", ""},
	} {
		for _, buffer := range []int{0, 2, 100} {
			x := created(t, coder(one.codec, api.EolLf, api.Raise), buffer)
			x.write("\n", api.OK)
			x.flushed(map[bool]string{false: "\n", true: "\x00\n"}[one.codec == api.Utf16])
			before := string(x.p.Bytes())
			x.write(one.s, api.ErrCode)
			x.write("\n"+one.s+"\n", api.ErrCode)
			x.flushed(before)
			for mode, want := range map[int]string{api.Replace: one.replaced, api.Ignore: one.left} {
				x := created(t, coder(one.codec, api.EolLf, mode), buffer)
				x.write(one.s, api.OK)
				if len(want) > buffer {
					x.has(want)
				} else {
					x.has("")
				}
				x.flushed(want)
			}
		}
	}
	x := created(t, coder(api.Latin1, api.EolLs, api.Raise), 1)
	x.write("a", api.OK)
	x.write("\n", api.ErrCode) // the eol that Latin1 has not
	x.write("b\n", api.ErrCode)
	x.has("")
	x.write("c", api.OK)
	x.flushed("ac")
}

// P20.3: U+FFFD that is written out is a character.
func TestWriteOfReplacement(t *testing.T) {
	x := created(t, raising, 0)
	x.write("\ufffd", api.OK)
	x.has("\ufffd")
	x = created(t, coder(api.Utf16, api.EolNone, api.Raise), 0)
	x.write("\ufffd", api.OK)
	x.has("\xff\xfd")
}

// P20.3: every Write encodes on its own: no mark is ever put ahead, one that is written is written each time, and a character whose bytes come by two Writes is none.
func TestEveryWriteEncodes(t *testing.T) {
	x := created(t, coder(api.Utf16, api.EolNel, api.Raise), 5)
	for range 4 {
		x.write("a\n", api.OK)
	}
	x.flushed(strings.Repeat("\x00a\x00\x85", 4))
	x = created(t, coder(api.Utf16, api.EolNone, api.Raise), 5)
	x.write("\ufeff", api.OK)
	x.write("a", api.OK)
	x.write("\ufeffb", api.OK)
	x.write("\ufffe", api.OK)
	x.flushed("\xfe\xff\x00a\xfe\xff\x00b\xff\xfe")
	x = created(t, raising, 0)
	x.write("\ufeffa", api.OK)
	x.write("\ufeff", api.OK)
	x.has("\ufeffa\ufeff")
	x = created(t, coder(api.Utf8, api.EolCrLf, api.Raise), 1)
	x.write("\r", api.OK)
	x.write("\n", api.OK)
	x.write("\n\r", api.OK)
	x.flushed("\r\r\n\r\n\r")
	x = created(t, coder(api.Utf8, api.EolNone, api.Replace), 100)
	x.write("\xc3", api.OK)
	x.write("\xa9", api.OK)
	x.flushed("\ufffd\ufffd")
}

// P20.3: each eol style, in each codec.
func TestWriteEnds(t *testing.T) {
	for codec, ends := range map[int][]string{
		api.Utf8:   {"\n", "\n", "\r", "\r\n", "\u0085", "\u2028"},
		api.Latin1: {"\n", "\n", "\r", "\r\n", "\x85", "?"},
		api.Utf16:  {"\x00\n", "\x00\n", "\x00\r", "\x00\r\x00\n", "\x00\x85", "\x20\x28"},
	} {
		for eol, end := range ends {
			x := created(t, coder(codec, eol, api.Replace), 0)
			x.write("\n", api.OK)
			x.write("\n\n", api.OK)
			x.has(end + end + end)
		}
	}
}

const most = 65536 // api.MaxBytes written out

// P20.3: as many bytes as may be in all, and one more, kept back or not; what goes beyond changes nothing.
func TestMost(t *testing.T) {
	for _, buffer := range []int{0, 1, most - 1, most, most + 1, math.MaxInt} {
		x := created(t, raising, buffer)
		x.write(strings.Repeat("a", most-2), api.OK)
		before := string(x.p.Bytes())
		x.write("bcd", api.ErrLarge)
		x.write("π\n", api.ErrLarge)
		x.write(strings.Repeat("b", most), api.ErrLarge)
		x.write(strings.Repeat("b", most+1), api.ErrLarge)
		x.has(before)
		x.write("b", api.OK)
		x.write("π", api.ErrLarge)
		x.write("c", api.OK)
		x.write("", api.OK)
		x.write("d", api.ErrLarge)
		x.flushed(strings.Repeat("a", most-2) + "bc")
		x.write("d", api.ErrLarge)
		x.write("", api.OK)
		x.flushed(strings.Repeat("a", most-2) + "bc")
	}
}

// P20.3: as many as may be, and one more, in one great piece.
func TestMostAtOnce(t *testing.T) {
	full := strings.Repeat("a", most)
	for _, c := range []api.Coder{raising, coder(api.Latin1, api.EolCr, api.Replace)} {
		for _, buffer := range []int{0, most - 1, most, math.MaxInt} {
			x := created(t, c, buffer)
			x.write(full+"a", api.ErrLarge)
			x.write(full+full+full, api.ErrLarge)
			x.flushed("")
			x.write(full, api.OK)
			if buffer >= most {
				x.has("")
			} else {
				x.has(full)
			}
			x.write("a", api.ErrLarge)
			x.flushed(full)
		}
	}
	x := created(t, coder(api.Utf16, api.EolNone, api.Raise), 0)
	x.write(full[:most/2+1], api.ErrLarge)
	x.write(full[:most/2], api.OK)
	x.has(strings.Repeat("\x00a", most/2))
	x = created(t, coder(api.Utf8, api.EolLs, api.Raise), 0)
	x.write(strings.Repeat("\n", most/3+1), api.ErrLarge)
	x.write(strings.Repeat("\n", most/3), api.OK)
	x.write("\n", api.ErrLarge)
	x.write("a", api.OK)
}

// P20.3: as many as may be in many small pieces.
func TestMostBySmallPieces(t *testing.T) {
	for _, buffer := range []int{0, 1, 1000, most} {
		x := created(t, raising, buffer)
		for range most/4 - 1 {
			if e := x.p.Write("\U0001f600"); e != api.OK {
				t.Fatalf("Write: error %d", e)
			}
		}
		x.write("\U0001f600a", api.ErrLarge)
		x.write("abc", api.OK)
		x.write("π", api.ErrLarge)
		x.write("d", api.OK)
		x.write("e", api.ErrLarge)
		x.flushed(strings.Repeat("\U0001f600", most/4-1) + "abcd")
	}
}

// P20.3: the limit is one of the bytes that are written: a text that has more bytes than may be written, and of which fewer come, is written.
func TestLongTextOfFewBytes(t *testing.T) {
	for ahead := range 5 {
		pad := strings.Repeat("a", ahead)
		x := created(t, coder(api.Latin1, api.EolNone, api.Raise), 0)
		x.write(pad+strings.Repeat("é", most-ahead)+"b", api.ErrLarge)
		x.write(pad+strings.Repeat("é", most-ahead), api.OK)
		x.has(pad + strings.Repeat("\xe9", most-ahead))
		x = created(t, coder(api.Latin1, api.EolNone, api.Replace), 0)
		x.write(pad+strings.Repeat("\U0001f600", most-ahead), api.OK)
		x.has(pad + strings.Repeat("?", most-ahead))
		x = created(t, coder(api.Utf16, api.EolNone, api.Raise), 0)
		x.write(pad+strings.Repeat("\u2028", most/2-ahead), api.OK)
		x.has(strings.Repeat("\x00a", ahead) + strings.Repeat("\x20\x28", most/2-ahead))
		x = created(t, coder(api.Utf8, api.EolNone, api.Ignore), 0)
		x.write(pad+strings.Repeat("\x80\xff\xfe", most)+"b", api.OK)
		x.write(strings.Repeat("\x80", 2*most)+"\xc3"+pad+"c", api.OK)
		x.has(pad + "b" + pad + "c")
		x = created(t, coder(api.Utf8, api.EolNone, api.Replace), 0)
		x.write(pad+strings.Repeat("\x80", most/3-ahead), api.OK)
		x.has(pad + strings.Repeat("\ufffd", most/3-ahead))
	}
}

// P20.3, R2: what can't be encoded is told ahead of what is too much, wherever it stands.
func TestWriteTies(t *testing.T) {
	full := strings.Repeat("a", most)
	x := created(t, coder(api.Latin1, api.EolNone, api.Raise), 0)
	for _, s := range []string{"π" + full, full + "π", full + full + "\xff", full + "a\xc3", full[:most-1] + "\ufffd"} {
		x.write(s, api.ErrCode)
	}
	x.write(full, api.OK)
	x.write("π", api.ErrCode)
	x.write("aπ", api.ErrCode)
	x.write("a", api.ErrLarge)
	x.has(full)
	x = created(t, coder(api.Latin1, api.EolNone, api.Ignore), 0)
	x.write(full, api.OK)
	x.write("π", api.OK)
	x.write("πa", api.ErrLarge)
	x.has(full)
}

// P20.3: Bytes ahead of Flush, behind it, and behind two.
func TestFlush(t *testing.T) {
	x := created(t, raising, 10)
	x.write("abc", api.OK)
	x.has("")
	x.p.Flush()
	x.has("abc")
	x.p.Flush()
	x.has("abc")
	x.write("de", api.OK)
	x.has("abc")
	x.p.Flush()
	x.has("abcde")
	x.write("0123456789", api.OK) // Flush has made room
	x.has("abcde")
	x.write("f", api.OK)
	x.has("abcde0123456789f")
}

// P20.4, R1: a nil port, and one that Create has not made, which has no transcoder.
func TestNoOut(t *testing.T) {
	for _, p := range []*Out{nil, new(Out)} {
		x := output{t, p}
		for _, s := range []string{"", "a", "\xff", strings.Repeat("a", most+1)} {
			x.write(s, api.ErrArg)
			x.flushed("")
		}
	}
}
