package ports

import (
	"strings"
	"testing"

	"sextant/api"
)

// The chapter's example.
func TestExample(t *testing.T) {
	x := opened(t, raising, "\x61\x0D\x0A\x62\xFF")
	x.reads("a")
	x.line("", api.OK)
	x.reads("b")
	x.over(api.ErrCode)
	x = opened(t, raising, "(a b) c")
	x.datum("(a b)", api.OK)
	x.reads(" ")
	x.datum("c", api.OK)
	x.datum("", api.ErrEnd)
	x.over(api.ErrEnd)
}

// P20.1: what is no transcoder is told ahead of what is too long; nil beside an error.
func TestOpenRefuses(t *testing.T) {
	long := strings.Repeat("a", api.MaxBytes+1)
	for _, c := range wrongCoders() {
		for _, s := range []string{"", "a", "a\xff", long} {
			if p, e := Open([]byte(s), c); p != nil || e != api.ErrArg {
				t.Errorf("Open(%s, %v): %v, error %d", brief(s), c, p, e)
			}
		}
	}
	for _, c := range coders() {
		for _, s := range []string{long, "\xff" + long, long + long, strings.Repeat("\xff", api.MaxBytes+1)} {
			if p, e := Open([]byte(s), c); p != nil || e != api.ErrLarge {
				t.Errorf("Open(%s, %v): %v, error %d", brief(s), c, p != nil, e)
			}
		}
	}
}

// P20.1: no bytes, with each transcoder.
func TestOpenOfNothing(t *testing.T) {
	for _, c := range coders() {
		for _, data := range [][]byte{nil, {}, []byte("a\xff")[:0]} {
			p, e := Open(data, c)
			if e != api.OK {
				t.Fatalf("Open(%v): error %d", c, e)
			}
			input{t, p}.over(api.ErrEnd)
		}
	}
}

// P20.1: as many bytes as may be, without a fault and with one at the last place.
func TestOpenOfMost(t *testing.T) {
	const most = 65536
	for _, c := range coders() {
		full := strings.Repeat("\x00a", most/2)
		want := full
		if c.Codec == api.Utf16 {
			want = strings.Repeat("a", most/2)
		}
		x := opened(t, c, full)
		x.line(want, api.OK)
		x.over(api.ErrEnd)
	}
	x := opened(t, raising, strings.Repeat("a", most-1)+"\xff")
	for range most - 1 {
		if r, e := x.p.Read(); r != 'a' || e != api.OK {
			t.Fatalf("Read: %q, error %d", r, e)
		}
	}
	x.over(api.ErrCode)
}

// P20.1: each codec and each eol style.
func TestOpenDecodes(t *testing.T) {
	const ends = "a\r\nb\nc\rd\u0085e\u2028f\r\u0085g"
	const plain = "a\nb\nc\nd\ne\nf\ng"
	utf16 := func(s string) string {
		var out []byte
		for _, r := range s {
			out = append(out, byte(r>>8), byte(r))
		}
		return string(out)
	}
	for _, eol := range eols {
		want := plain
		if eol == api.EolNone {
			want = ends
		}
		for _, mode := range modes {
			for codec, data := range map[int]string{api.Utf8: ends, api.Utf16: utf16(ends)} {
				x := opened(t, coder(codec, eol, mode), data)
				x.reads(want)
				x.over(api.ErrEnd)
			}
			x := opened(t, coder(api.Latin1, eol, mode), "\xe9\r\x85\xff\x85\xc3")
			if eol == api.EolNone {
				x.reads("é\r\u0085ÿ\u0085Ã")
			} else {
				x.reads("é\nÿ\nÃ")
			}
			x.over(api.ErrEnd)
		}
	}
}

// P20.1: both marks of Utf16, ahead of a fault and without one.
func TestOpenMarks(t *testing.T) {
	c := coder(api.Utf16, api.EolLf, api.Raise)
	for _, one := range []struct {
		data, want string
		ending     api.Errno
	}{
		{"\xfe\xff", "", api.ErrEnd},
		{"\xff\xfe", "", api.ErrEnd},
		{"\xfe\xff\x00a\x00\r\x00\n\x00b", "a\nb", api.ErrEnd},
		{"\xff\xfea\x00\r\x00\n\x00b\x00", "a\nb", api.ErrEnd},
		{"\xfe\xff\x00a\xd8\x00\x00b", "a", api.ErrCode},
		{"\xff\xfea\x00\x00\xd8b\x00", "a", api.ErrCode},
		{"\xff\xfea\x00b", "a", api.ErrCode},
		{"\xfe\xff\xdc\x00", "", api.ErrCode},
		{"\xff\xfe\x00\xdc", "", api.ErrCode},
		{"\xff\xfe\x3d\xd8\x00\xde\x3d\xd8", "\U0001f600", api.ErrCode},
		{"\xff", "", api.ErrCode},
		{"\xfe", "", api.ErrCode},
		{"\xff\xfe\xff\xfe\x00", "\ufeff", api.ErrCode},
	} {
		x := opened(t, c, one.data)
		x.reads(one.want)
		x.over(one.ending)
	}
}

// P20.1, P20.2: a fault at the first place, in the middle, at the end and none, in each mode; with Raise nothing behind the first one is ever read.
func TestFaults(t *testing.T) {
	for _, one := range []struct {
		codec                         int
		data, ahead, replaced, ignore string
	}{
		{api.Utf8, "\xffab", "", "\ufffdab", "ab"},
		{api.Utf8, "a\xffb", "a", "a\ufffdb", "ab"},
		{api.Utf8, "ab\xff", "ab", "ab\ufffd", "ab"},
		{api.Utf8, "\xff", "", "\ufffd", ""},
		{api.Utf8, "\ufffd\xc3", "\ufffd", "\ufffd\ufffd", "\ufffd"},
		{api.Utf8, "é\u2027\U0001f600\xed\xa0\x80\n\xff", "é\u2027\U0001f600", "é\u2027\U0001f600\ufffd\ufffd\ufffd\n\ufffd", "é\u2027\U0001f600\n"},
		{api.Utf8, "a\r\xff\nb", "a\n", "a\n\ufffd\nb", "a\nb"},
		{api.Utf16, "\xd8\x00\x00a", "", "\ufffda", "a"},
		{api.Utf16, "\x00a\xdc\x00\x00b", "a", "a\ufffdb", "ab"},
		{api.Utf16, "\x00a\x00", "a", "a\ufffd", "a"},
		{api.Utf16, "\x00\r\x00\n\xdf\xff", "\n", "\n\ufffd", "\n"},
	} {
		x := opened(t, coder(one.codec, api.EolCr, api.Raise), one.data)
		x.reads(one.ahead)
		x.over(api.ErrCode)
		x = opened(t, coder(one.codec, api.EolCr, api.Replace), one.data)
		x.reads(one.replaced)
		x.over(api.ErrEnd)
		x = opened(t, coder(one.codec, api.EolCr, api.Ignore), one.data)
		x.reads(one.ignore)
		x.over(api.ErrEnd)
	}
}

// P20.2: characters of one to four bytes, at the ends of their ranges, and U+FFFD, which is no fault.
func TestReadCharacters(t *testing.T) {
	const text = "\x00a\x7f\u0080é\u07ff\u0800\ud7ff\ue000\ufeff\ufffd\ufffe\uffff\U00010000\U0001f600\U0010ffff"
	for _, mode := range modes {
		x := opened(t, coder(api.Utf8, api.EolNone, mode), text)
		x.reads(text)
		x.over(api.ErrEnd)
	}
	x := opened(t, raising, "\ufffd\xff")
	x.read(0xFFFD, api.OK)
	x.over(api.ErrCode)
	x = opened(t, raising, "\x00\x00")
	x.read(0, api.OK)
	x.read(0, api.OK)
	x.over(api.ErrEnd)
}

// P20.2: Peek stays, however often, and Read goes on behind it.
func TestPeekStays(t *testing.T) {
	x := opened(t, raising, "aπ")
	x.peek('a', api.OK)
	x.peek('a', api.OK)
	if r, e := x.p.Read(); r != 'a' || e != api.OK {
		t.Errorf("Read: %q, %d", r, e)
	}
	if r, e := x.p.Read(); r != 'π' || e != api.OK {
		t.Errorf("Read: %q, %d", r, e)
	}
	x.peek(0, api.ErrEnd)
	x.over(api.ErrEnd)
}

// P20.2: Line of empty lines, of a last line with its end and without it, and at the end.
func TestLines(t *testing.T) {
	for _, one := range []struct {
		text  string
		lines []string
	}{
		{"", nil},
		{"\n", []string{""}},
		{"\n\n\n", []string{"", "", ""}},
		{"a", []string{"a"}},
		{"a\n", []string{"a"}},
		{"a\nπ\ufffd \U0001f600", []string{"a", "π\ufffd \U0001f600"}},
		{"a\n\nb\n", []string{"a", "", "b"}},
		{"\na", []string{"", "a"}},
		{" \n ", []string{" ", " "}},
	} {
		for _, ending := range []api.Errno{api.ErrEnd, api.ErrCode} {
			data, lines := one.text, one.lines
			if ending == api.ErrCode {
				if data != "" && !strings.HasSuffix(data, "\n") {
					continue
				}
				data += "\xff\n"
			}
			x := opened(t, raising, data)
			for _, line := range lines {
				x.line(line, api.OK)
			}
			x.over(ending)
		}
	}
}

// P20.2: no other character ends a line; the eol style makes them U+000A, or does not.
func TestLineEnds(t *testing.T) {
	const text = "a\rb\u0085c\u2028d\r\ne\v\f\u2029f"
	x := opened(t, coder(api.Utf8, api.EolNone, api.Raise), text)
	x.line("a\rb\u0085c\u2028d\r", api.OK)
	x.line("e\v\f\u2029f", api.OK)
	x.over(api.ErrEnd)
	for _, eol := range eols[1:] {
		x := opened(t, coder(api.Utf8, eol, api.Raise), text)
		for _, line := range []string{"a", "b", "c", "d", "e\v\f\u2029f"} {
			x.line(line, api.OK)
		}
		x.over(api.ErrEnd)
	}
}

// P20.2: a fault ahead of the line's end, right at it and behind it; where Line answers an error, all stays to be read.
func TestLineAndFault(t *testing.T) {
	x := opened(t, raising, "ab\xffc\nd")
	x.line("", api.ErrCode)
	x.line("", api.ErrCode)
	x.reads("a")
	x.line("", api.ErrCode)
	x.reads("b")
	x.over(api.ErrCode)
	x = opened(t, raising, "ab\xff\n")
	x.line("", api.ErrCode)
	x.reads("ab")
	x.over(api.ErrCode)
	x = opened(t, raising, "ab\n\xff\n")
	x.line("ab", api.OK)
	x.over(api.ErrCode)
	x = opened(t, raising, "ab\nc\xff\n")
	x.line("ab", api.OK)
	x.line("", api.ErrCode)
	x.reads("c")
	x.over(api.ErrCode)
	x = opened(t, raising, "\xff")
	x.line("", api.ErrCode)
	x.over(api.ErrCode)
	x = opened(t, raising, "\n\xff")
	x.line("", api.OK)
	x.over(api.ErrCode)
}

// P20.2: what is left of a line that has been begun.
func TestRestOfLine(t *testing.T) {
	x := opened(t, raising, "aπb\ncd\ne")
	x.reads("aπ")
	x.line("b", api.OK)
	x.reads("cd")
	x.line("", api.OK)
	x.reads("e")
	x.over(api.ErrEnd)
}

// P20.2: each kind of datum, with blanks and remarks ahead, and a port that goes on right behind it.
func TestDatumKinds(t *testing.T) {
	for _, text := range []string{
		"()", "#t", "#F", "12", "-3/4+5i", "#\\a", "#\\x3c0", "#\\(", `"a\nb\"π"`, "a", "->a", "π", "#vu8(0 255)", "#vu8()", "(a . b)", "(a (b) . (c))", "[a 1]", "#(a #(\"b\"))", "#()", "'a", "'(a)",
	} {
		for _, ahead := range []string{"", " ", "\n\t\u2028", "; remark\n", "#| a #| b |# |#", "#;(x y) ", " #;1 ;\n"} {
			for _, behind := range []string{"", " ", "\n", ")", ";", " \xff", "(", "\"", "]"} {
				if behind == ";" && text == "#\\x3c0" {
					continue // behind hexadecimal digits it belongs to the token
				}
				x := opened(t, coder(api.Utf8, api.EolNone, api.Raise), ahead+text+behind)
				x.datum(text, api.OK)
				left, faulty := strings.CutSuffix(behind, "\xff")
				x.reads(left)
				if faulty {
					x.over(api.ErrCode)
				} else {
					x.over(api.ErrEnd)
				}
			}
		}
	}
}

// P20.2: at the end, and with nothing but blanks and remarks left, which stay.
func TestDatumAtEnd(t *testing.T) {
	for _, blanks := range []string{"", " ", "\n\t ", "; a", "#| a |#", "#;a", " #;(a) ;"} {
		for _, ending := range []struct {
			data string
			e    api.Errno
		}{{"", api.ErrEnd}, {"\xff", api.ErrCode}, {"\xffa", api.ErrCode}} {
			x := opened(t, raising, blanks+ending.data)
			x.datum("", api.ErrEnd)
			x.datum("", api.ErrEnd)
			x.reads(blanks)
			x.over(ending.e)
		}
	}
}

// P20.2: what chapter 8 has an error for is left as it was.
func TestDatumErrors(t *testing.T) {
	tall := strings.Repeat("(", api.MaxDepth) + strings.Repeat(")", api.MaxDepth)
	for text, e := range map[string]api.Errno{
		"(a": api.ErrText, " (a b": api.ErrText, "\"a": api.ErrText, ")": api.ErrText, "1a": api.ErrText, "'": api.ErrText, "#| a": api.ErrText, "#;": api.ErrText, "(a . )": api.ErrText, "#\\xD800": api.ErrText, "1/0": api.ErrText,
		"(" + tall + ")": api.ErrLarge, "1" + strings.Repeat("0", 5000): api.ErrLarge,
	} {
		for _, ending := range []struct {
			data string
			e    api.Errno
		}{{"", api.ErrEnd}, {"\xff", api.ErrCode}, {"\xff)", api.ErrCode}} {
			x := opened(t, raising, text+ending.data)
			x.datum("", e)
			x.datum("", e)
			x.reads(text)
			x.over(ending.e)
		}
	}
	x := opened(t, raising, tall)
	x.datum(tall, api.OK)
	x.over(api.ErrEnd)
}

// P20.2: a fault is the end of what Datum sees: behind the datum, right behind it, and within it.
func TestDatumAndFault(t *testing.T) {
	x := opened(t, raising, "(a) \xff")
	x.datum("(a)", api.OK)
	x.datum("", api.ErrEnd)
	x.reads(" ")
	x.over(api.ErrCode)
	for _, text := range []string{"(a)", "12", "abc", "\"s\"", "#\\a", "#t", "#vu8(1)"} {
		x := opened(t, raising, text+"\xff"+text)
		x.datum(text, api.OK)
		x.over(api.ErrCode)
	}
	for _, text := range []string{"(a", "\"s", "#(", "'", "#vu8(1", "#|", "(; a"} {
		x := opened(t, raising, text+"\xff\n)\"|#")
		x.datum("", api.ErrText)
		x.reads(text)
		x.over(api.ErrCode)
	}
	x = opened(t, raising, "1\xff2")
	x.datum("1", api.OK)
	x.over(api.ErrCode)
}

// P20.2: more bytes of characters than a text may have, till so many have been read that they fit.
func TestDatumOfTooMuch(t *testing.T) {
	const most = 65536
	latin := coder(api.Latin1, api.EolNone, api.Raise)
	x := opened(t, latin, "a"+strings.Repeat("\xe9", most/2)+" b")
	x.datum("", api.ErrLong) // 3 more bytes than may be
	x.reads("a")
	x.datum("", api.ErrLong) // 2 more
	x.reads("é")
	x.datum(strings.Repeat("é", most/2-1), api.OK)
	x.datum("b", api.OK)
	x.over(api.ErrEnd)
	x = opened(t, latin, strings.Repeat("\xe9", most/2)+"\n")
	x.datum("", api.ErrLong)
	x.line(strings.Repeat("é", most/2), api.OK)
	x.over(api.ErrEnd)
	x = opened(t, latin, strings.Repeat("\xe9", most/2))
	x.datum(strings.Repeat("é", most/2), api.OK)
	x.over(api.ErrEnd)
	x = opened(t, coder(api.Utf8, api.EolNone, api.Replace), "1 "+strings.Repeat("\xff", most-2))
	x.datum("", api.ErrLong)
	x.reads("1 ")
	x.datum("", api.ErrLong)
}

// P20.2: Read, Line and Datum in turn.
func TestInTurn(t *testing.T) {
	x := opened(t, raising, "(a\r\nb)  rest\r\nx y; z\n\n'q\"s\"\n12\xff")
	x.datum("(a b)", api.OK)
	x.read(' ', api.OK)
	x.line(" rest", api.OK)
	x.read('x', api.OK)
	x.datum("y", api.OK)
	x.line("; z", api.OK)
	x.line("", api.OK)
	x.read('\'', api.OK)
	x.datum("q", api.OK)
	x.datum(`"s"`, api.OK)
	x.line("", api.OK)
	x.line("", api.ErrCode)
	x.read('1', api.OK)
	x.datum("2", api.OK)
	x.over(api.ErrCode)
}

// P20.4, R1: a nil port, and one that Open has not made, which has no characters.
func TestNoIn(t *testing.T) {
	var p *In
	for range 2 {
		x := input{t, p}
		x.read(0, api.ErrArg)
		x.line("", api.ErrArg)
		x.datum("", api.ErrArg)
	}
	input{t, new(In)}.over(api.ErrEnd)
}
