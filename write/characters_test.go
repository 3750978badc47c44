package write

import (
	"strconv"
	"strings"
	"testing"
	"unicode/utf8"

	"sextant/api"
)

// charNames is chapter 8's list, with the one name of 10 that is written.
func charNames() map[rune]string {
	return map[rune]string{0: "nul", 7: "alarm", 8: "backspace", 9: "tab", 10: "newline", 11: "vtab", 12: "page", 13: "return", 27: "esc", 32: "space", 127: "delete"}
}

// hex is a number in small hexadecimal digits, by hand.
func hex(c rune) string {
	digits := ""
	for ; c > 0 || digits == ""; c /= 16 {
		digits = string("0123456789abcdef"[c%16]) + digits
	}
	return digits
}

// everyCharacter calls visit with each character there is.
func everyCharacter(visit func(c rune)) {
	for c := rune(0); c <= 0x10FFFF; c++ {
		if c < 0xD800 || c > 0xDFFF {
			visit(c)
		}
	}
}

// P9.1: each character, by its name, by its number or as it is.
func TestEveryCharacter(t *testing.T) {
	names := charNames()
	everyCharacter(func(c rune) {
		if t.Failed() {
			return
		}
		want := `#\` + string(c)
		if name, ok := names[c]; ok {
			want = `#\` + name
		} else if c < 32 || c >= 0x7F && c <= 0x9F || c == 0xA0 || c == 0x2028 || c == 0x2029 {
			want = `#\x` + hex(c)
		}
		writes(t, char(c), want)
		displays(t, char(c), string(c))
		if c < 0x3000 || c%97 == 0 {
			readAgain(t, char(c))
			readAgain(t, list(char(c), vector(char(c)), char(c)))
			readAgain(t, pair(quote(char(c)), char(c)))
		}
	})
}

// P9.1: characters with a name, and those on both sides of what is told by its number.
func TestCharacterTexts(t *testing.T) {
	for text, c := range map[string]rune{
		`#\nul`: 0, `#\x1`: 1, `#\x6`: 6, `#\alarm`: 7, `#\backspace`: 8, `#\tab`: 9, `#\newline`: 10, `#\vtab`: 11, `#\page`: 12, `#\return`: 13, `#\xe`: 14, `#\x1a`: 26, `#\esc`: 27, `#\x1c`: 28, `#\x1f`: 31, `#\space`: 32, `#\!`: 33,
		`#\~`: 126, `#\delete`: 127, `#\x80`: 128, `#\x84`: 0x84, `#\x85`: 0x85, `#\x86`: 0x86, `#\x9f`: 159, `#\xa0`: 160, "#\\\u00a1": 161,
		"#\\\u2027": 0x2027, `#\x2028`: 0x2028, `#\x2029`: 0x2029, "#\\\u202a": 0x202A, "#\\\u3000": 0x3000, "#\\\u1680": 0x1680, "#\\\u200b": 0x200B, "#\\\ufeff": 0xFEFF, "#\\\ufffd": 0xFFFD,
		`#\x`: 'x', `#\X`: 'X', `#\0`: '0', `#\(`: '(', `#\)`: ')', `#\[`: '[', `#\]`: ']', `#\"`: '"', `#\;`: ';', `#\'`: '\'', `#\\`: '\\', `#\#`: '#', `#\|`: '|', `#\.`: '.', `#\é`: 'é', `#\λ`: 'λ', "#\\\ud7ff": 0xD7FF, "#\\\ue000": 0xE000, "#\\\uffff": 0xFFFF, "#\\\U00010000": 0x10000, "#\\\U0001f600": 0x1F600, "#\\\U0010ffff": 0x10FFFF,
	} {
		writes(t, char(c), text)
		displays(t, char(c), string(c))
		writes(t, vector(char(c), char(c)), "#("+text+" "+text+")")
		displays(t, pair(char(c), char(c)), "("+string(c)+" . "+string(c)+")")
	}
}

// P9.1: each character in a string: behind a \ by a letter or itself, by its number, or as it is.
func TestEveryCharacterInStrings(t *testing.T) {
	letters := map[rune]string{7: `\a`, 8: `\b`, 9: `\t`, 10: `\n`, 11: `\v`, 12: `\f`, 13: `\r`, '"': `\"`, '\\': `\\`}
	everyCharacter(func(c rune) {
		if t.Failed() {
			return
		}
		want := string(c)
		if text, ok := letters[c]; ok {
			want = text
		} else if c < 32 || c >= 0x7F && c <= 0x9F || c == 0x2028 || c == 0xFEFF {
			want = `\x` + hex(c) + `;`
		}
		writes(t, str(string(c)), `"`+want+`"`)
		writes(t, str("a"+string(c)+"1"), `"a`+want+`1"`)
		displays(t, str("a"+string(c)), "a"+string(c))
		if c < 0x3000 || c%97 == 0 {
			readAgain(t, str(string(c)+"a"+string(c)))
		}
	})
}

// P9.1: strings by their texts.
func TestStrings(t *testing.T) {
	for text, want := range map[string]string{
		"": `""`, "abc": `"abc"`, "a b": `"a b"`, `"`: `"\""`, `\`: `"\\"`, `\n`: `"\\n"`, `"\"`: `"\"\\\""`, "\a\b\t\n\v\f\r": `"\a\b\t\n\v\f\r"`, "\r\n": `"\r\n"`, "\x00": `"\x0;"`, "\x06": `"\x6;"`, "\x0e": `"\xe;"`, "\x1b1": `"\x1b;1"`, "\x1f": `"\x1f;"`, " ": `" "`, "~": `"~"`, "\x7f": `"\x7f;"`, "\u0080": `"\x80;"`, "\u0085": `"\x85;"`, "\u009f": `"\x9f;"`, "\u00a0": "\"\u00a0\"", "\u2027\u2028\u2029": "\"\u2027\\x2028;\u2029\"", "\ufefe\ufeff\uff00": "\"\ufefe\\xfeff;\uff00\"", "\ufffd": "\"\ufffd\"", "éλ\U0001f600": `"éλ😀"`, "();'#|,": `"();'#|,"`, "\r\u0085": `"\r\x85;"`, "a\nb": `"a\nb"`,
	} {
		writes(t, str(text), want)
		displays(t, str(text), text)
		writes(t, list(str(text), str(text)), "("+want+" "+want+")")
		displays(t, list(str(text), str(text)), "("+text+" "+text+")")
		writes(t, pair(sym("a"), str(text)), "(a . "+want+")")
		readAgain(t, str(text))
		readAgain(t, pair(vector(str(text), str(text)), str(text)))
	}
}

// P9.1, P8.2: a string's text is no longer than it must be: what is told by its number alone would be read as another one, or is listed.
func TestStringsAsTheyAre(t *testing.T) {
	for c := rune(32); c < 0x3000; c++ {
		text, _ := Write(str(string(c)))
		if utf8.RuneCountInString(text) != 3 && !strings.ContainsRune("\"\\\u2028", c) && (c < 127 || c > 159) {
			t.Errorf("the character %s is written as %s", strconv.QuoteRune(c), text)
		}
	}
}

// ErrForm, not a text, for what is no character.
func TestNoCharacters(t *testing.T) {
	for _, n := range []int{-1, 0xD800, 0xDFFF, 0x110000, 1<<32 + 'a', -(1 << 32) + 'a'} {
		refused(t, "no character", api.Datum{Kind: api.Char, N: n})
	}
	for _, text := range []string{"\xff", "a\x80", "\xed\xa0\x80", "\xc3"} {
		refused(t, "a bad byte in a string", str(text))
		refused(t, "a bad byte in a symbol", sym(text))
		refused(t, "a bad byte in another thing", other(text))
	}
}
