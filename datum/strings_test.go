package datum

import (
	"strings"
	"testing"
)

// quotedText is a string of that text as it stands.
func quotedText(s string) string { return `"` + s + `"` }

// P8.2: each character but \ and " stands for itself, but line ends do not.
func TestStringCharacters(t *testing.T) {
	readsWhole(t, `""`, str(""))
	for c := rune(0); c < 0x3000; c++ {
		text := string(c)
		switch c {
		case '\\', '"':
			continue
		case '\r', '\u0085', '\u2028':
			readsWhole(t, quotedText("a"+text+"b"), str("a\nb"))
		default:
			readsWhole(t, quotedText(text), str(text))
			readsWhole(t, quotedText("a"+text+"b"), str("a"+text+"b"))
		}
	}
	for _, text := range []string{"\ud7ff\ue000", "\ufeff", "\ufffd", "\U00010000\U0010ffff", "()[];'#|#;", "a;b", "#| |#", "; a\n", "\u2029", "\x00\x7f"} {
		readsWhole(t, quotedText(text), str(text))
	}
	long := strings.Repeat("a", longestText-2)
	readsWhole(t, quotedText(long), str(long))
}

// P8.2: each of the line ends is one U+000A, and those that could be two are one.
func TestStringLineEnds(t *testing.T) {
	for text, want := range map[string]string{
		"\n": "\n", "\r": "\n", "\u0085": "\n", "\u2028": "\n", "\r\n": "\n", "\r\u0085": "\n",
		"\n\r": "\n\n", "\u0085\n": "\n\n", "\r\r": "\n\n", "\n\n": "\n\n", "\r\u2028": "\n\n", "\u2028\u0085": "\n\n", "\u0085\r": "\n\n", "\u2028\n": "\n\n",
		"\r\n\n": "\n\n", "\r\r\n": "\n\n", "\r\n\r\n": "\n\n", "\r\n\u0085": "\n\n", "\r\u0085\n": "\n\n", "\r\u0085\u0085": "\n\n", "\r\u0085\r\n": "\n\n",
		"\u2029": "\u2029", "\v\f": "\v\f", "\r\u2029": "\n\u2029", "\r\\n": "\n\n", "\r\\x85;": "\n\u0085",
	} {
		readsWhole(t, quotedText(text), str(want))
		readsWhole(t, quotedText("a"+text+"é"), str("a"+want+"é"))
	}
}

// P8.2: what stands behind a \ in a string.
func TestStringEscapes(t *testing.T) {
	named := map[byte]string{'a': "\x07", 'b': "\x08", 't': "\x09", 'n': "\x0a", 'v': "\x0b", 'f': "\x0c", 'r': "\x0d", '"': `"`, '\\': `\`}
	for c := range 256 {
		if c == 'x' {
			continue
		}
		text := quotedText("a\\" + string([]byte{byte(c)}) + "b")
		if want, ok := named[byte(c)]; ok {
			readsWhole(t, text, str("a"+want+"b"))
		} else {
			faulty(t, text)
		}
	}
	readsWhole(t, `"\r\n"`, str("\r\n"))
	readsWhole(t, `"\a\b\t\n\v\f\r\"\\"`, str("\a\b\t\n\v\f\r\"\\"))
	readsWhole(t, `"\\n\\\""`, str(`\n\"`))
	readsWhole(t, `"\\x41;"`, str(`\x41;`))
	faulty(t, `"\é"`, "\"\\\u2028\"", "\"a\\\n  b\"", "\"a\\  \n  b\"", `"\ "`, `"\q"`, `"\0"`, `"\u0041"`, `"\("`, `"\;"`, `"\'"`)
}

// P8.2: \x, one to eight digits and ; stand for a character, whichever it is.
func TestStringNumbers(t *testing.T) {
	for text, want := range map[string]string{
		`\x41;`: "A", `\x0;`: "\x00", `\xA;`: "\n", `\xd;`: "\r", `\xD;\xA;`: "\r\n", `\x85;`: "\u0085", `\x2028;`: "\u2028", `\x22;`: `"`, `\x5c;n`: `\n`, `\x3bB;x`: "λx", `a\x41;42;`: "aA42;", `\x41;;`: "A;",
		`\xd7ff;`: "\ud7ff", `\xE000;`: "\ue000", `\xfffd;`: "\ufffd", `\x10FFFF;`: "\U0010ffff", `\x0010ffff;`: "\U0010ffff",
	} {
		readsWhole(t, quotedText(text), str(want))
		readsWhole(t, "(a"+quotedText(text)+")", list(sym("a"), str(want)))
	}
	for digits := 1; digits <= 8; digits++ {
		readsWhole(t, quotedText(`\x`+strings.Repeat("0", digits-1)+"9;"), str("\t"))
	}
	for _, digits := range append(notCharacters(), "", "000000041", "4g", "g", "-41", "+41", " 41", "4 1", "41 ", "4_1", "0x41", "é", `\x41`, "4\n1") {
		faulty(t, quotedText(`\x`+digits+";"))
	}
	faulty(t, `"\x41"`, `"\x41`, `"\x"`, `"\x;"`, `"\x4"1;"`, `"\X41;"`, `"\x41"; "`)
}

// P8.2: a string without an end, and a bad byte in one.
func TestStringFaults(t *testing.T) {
	faulty(t, `"`, `"a`, `"\"`, `"a\`, `"a\\\"`, `("a)`, `"a\x41;`, "\"a\n", `'"`, `#("`)
	faulty(t, "\"\xff\"", "\"a\xc3\"", "\"\x80a\"", "\"\xed\xa0\x80\"", "\"\xe2\x80\"", "\"\\\xff\"", "\"\\x4\xff;\"", "(a \"\xff\")", "\"\xff")
	reads(t, `"""`, str(""), 2)
	reads(t, `"a""b"`, str("a"), 3)
	reads(t, "\"a\"\xff", str("a"), 3)
	readsWhole(t, "\"\ufffd\"", str("\ufffd"))
}
