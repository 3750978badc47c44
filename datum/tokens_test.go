package datum

import (
	"strings"
	"testing"

	"sextant/api"
	"sextant/chars"
)

// word is a text and the datum that it is.
type word struct {
	text string
	want api.Datum
}

// someWords has tokens of each kind that ends ahead of a delimiter.
func someWords() []word {
	return []word{
		{"#t", boolean(1)}, {"#F", boolean(0)}, {"#\\space", char(' ')}, {"#\\nul", char(0)}, {"12", whole(12)}, {"-1/3", complexNumber(-1, 3, 0, 1)}, {"#xFF", whole(255)},
		{"+i", complexNumber(0, 1, 1, 1)}, {"abc", sym("abc")}, {"é", sym("é")}, {"λ\\x41;", sym("λA")}, {"+", sym("+")}, {"-", sym("-")}, {"...", sym("...")}, {"->", sym("->")}, {"->a", sym("->a")},
	}
}

// P8.2: a token that is no bracket, mark or string ends ahead of a delimiter, whichever it is, or with the text.
func TestTokensAheadOfDelimiters(t *testing.T) {
	for _, w := range someWords() {
		readsWhole(t, w.text, w.want)
		for _, c := range delimiters {
			reads(t, w.text+string(c), w.want, len(w.text))
			reads(t, w.text+string(c)+"z", w.want, len(w.text))
		}
		readsWhole(t, "("+w.text+")", list(w.want))
		readsWhole(t, "("+w.text+"\"\""+w.text+"["+w.text+"]"+w.text+";\n"+w.text+"\u2029)", list(w.want, str(""), w.want, list(w.want), w.want, w.want))
	}
}

// P8.2: what is no delimiter belongs to the token, which is none then.
func TestTokensAheadOfOthers(t *testing.T) {
	for _, w := range someWords() {
		for _, behind := range []string{"'", "`", ",", "{", "}", "|", "#", "#|x|#", "\\", "\x00", "\x1b", "\x7f", "\xff", "#;a", "'a", "\\a", "\\x;", "#t", "#\\a", "|a|"} {
			faulty(t, w.text+behind, w.text+behind+" ", "("+w.text+behind+")")
		}
	}
	faulty(t, "1a", "1é", "#ta", "#t1", "#true", "#false", "#tf", "#t.", "#\\spacea", "#\\space1", "12.", "1/3/", "+ia", "+1a", "...a", "....")
	faulty(t, "#t+", "#f@", "1@", "1!", "1+", "1-", "1->", "1...", "1\\x41;", "#t\\x41;", "#\\space\\x41;")
}

// P8.2: brackets, the mark of a quotation and strings end where they end, whatever stands behind them.
func TestTokensThatEndByThemselves(t *testing.T) {
	for _, behind := range []string{"", "a", "1", "#", "'", "\"", "(", ")", "]", "|", "\xff", " ", ";", "\\", ".", "é", "#t"} {
		reads(t, "()"+behind, empty(), 2)
		reads(t, "[]"+behind, empty(), 2)
		reads(t, "(a)"+behind, list(sym("a")), 3)
		reads(t, "#()"+behind, vector(), 3)
		reads(t, "#vu8()"+behind, raw(), 6)
		reads(t, "\"a\""+behind, str("a"), 3)
		reads(t, "'\"é\""+behind, list(sym("quote"), str("é")), 5)
	}
	readsWhole(t, "(a(b)c\"d\"'e[])", list(sym("a"), list(sym("b")), sym("c"), str("d"), list(sym("quote"), sym("e")), empty()))
}

// P8.2: Booleans, with a small letter or a capital, and what is none.
func TestBooleans(t *testing.T) {
	for text, n := range map[string]int{"#t": 1, "#T": 1, "#f": 0, "#F": 0} {
		readsWhole(t, text, boolean(n))
	}
	faulty(t, "#", "#a", "#tt", "##t", "#'a", "#1", "#!r6rs", "#!eof", "#<void>", "#`a", "#,a", "#&a", "#[a]", "#{a}", "#v(1)", "#vu(1)", "#vu8", "#vu8 (1)", "#VU8(1)", "#Vu8(1)", "#vu8[1]", "#vu16(1)", "# (a)", "# t", "#\n")
}

// charNames is chapter 8's list.
func charNames() map[string]rune {
	return map[string]rune{
		"nul": 0, "alarm": 7, "backspace": 8, "tab": 9, "linefeed": 10, "newline": 10, "vtab": 11, "page": 12, "return": 13, "esc": 27, "space": 32, "delete": 127,
	}
}

// P8.2: a character by its name, which is written in small letters and whole.
func TestCharacterNames(t *testing.T) {
	for name, c := range charNames() {
		readsWhole(t, "#\\"+name, char(c))
		reads(t, "#\\"+name+" ", char(c), len(name)+2)
		reads(t, "#\\"+name+")", char(c), len(name)+2)
		faulty(t, "#\\"+strings.ToUpper(name), "#\\"+strings.ToUpper(name[:1])+name[1:], "#\\"+name+"s", "#\\"+name[:len(name)-1], "#\\ "+name, "\\"+name, "#"+name)
	}
	faulty(t, "#\\null", "#\\altmode", "#\\rubout", "#\\escape", "#\\del", "#\\lf", "#\\cr", "#\\ab", "#\\xy", "#\\aa", "#\\é1", "#\\éé", "#\\12", "#\\\\\\", "#\\##", "#\\''", "#\\#t")
}

// P8.2: a character by itself, whichever it is: a delimiter or not, of one byte or of more.
func TestCharactersAlone(t *testing.T) {
	for c := rune(0); c < 0x3000; c++ {
		text := "#\\" + string(c)
		readsWhole(t, text, char(c))
		reads(t, text+" ", char(c), len(text))
		reads(t, text+"(", char(c), len(text))
		reads(t, text+"\u2028", char(c), len(text))
	}
	for _, c := range []rune{0xD7FF, 0xE000, 0xFEFF, 0xFFFD, 0xFFFF, 0x10000, 0x1F600, 0x10FFFF} {
		readsWhole(t, "#\\"+string(c), char(c))
	}
	readsWhole(t, "#\\x", char('x'))
	reads(t, "#\\x)", char('x'), 3)
	readsWhole(t, "(#\\x #\\X #\\a)", list(char('x'), char('X'), char('a')))
	faulty(t, "#\\", "(#\\", "'#\\", "#\\\xff", "#\\\xc3", "#\\\xed\xa0\x80")
}

// P8.2: #\ and a delimiter character is that character, and another delimiter, or the end, must stand behind it.
func TestCharactersThatDelimit(t *testing.T) {
	for _, c := range delimiters {
		text := "#\\" + string(c)
		readsWhole(t, text, char(c))
		for _, d := range delimiters {
			if d != ';' {
				reads(t, text+string(d), char(c), len(text))
			}
		}
		for _, behind := range []string{"a", "1", "z", "é", "'", "#", ".", "\\", "|", "\xff", "x41", "#t", "space", "a;", "1;"} {
			faulty(t, text+behind, "("+text+behind+")")
		}
		readsWhole(t, "("+text+")", list(char(c)))
		readsWhole(t, "("+text+" a)", list(char(c), sym("a")))
	}
	readsWhole(t, `(#\( #\) #\")`, list(char('('), char(')'), char('"')))
}

// P8.2: a character by its number: one to eight digits, with small letters or capitals.
func TestCharacterNumbers(t *testing.T) {
	for digits, c := range map[string]rune{
		"0": 0, "9": 9, "a": 10, "A": 10, "f": 15, "F": 15, "41": 'A', "041": 'A', "0041": 'A', "00041": 'A', "000041": 'A', "0000041": 'A', "00000041": 'A',
		"3bB": 0x3BB, "d7fF": 0xD7FF, "E000": 0xE000, "fffd": 0xFFFD, "10FFFF": 0x10FFFF, "0010fFfF": 0x10FFFF, "00000000": 0, "20": ' ', "28": '(',
	} {
		readsWhole(t, "#\\x"+digits, char(c))
		reads(t, "#\\x"+digits+"]", char(c), len(digits)+3)
	}
	for _, digits := range notCharacters() {
		faulty(t, "#\\x"+digits)
	}
	faulty(t, "#\\x000000041", "#\\x000000000", "#\\X41", "#\\x4g", "#\\xg", "#\\x-41", "#\\x+41", "#\\x4_1", "#\\x0x41", "#\\xé", "#\\x4é", "#\\u41", "#\\41", "#\\x41;", "#\\xx41", "#x", "\\x41")
}

// notCharacters has hexadecimal digits that are no character's number.
func notCharacters() []string {
	return []string{"D800", "d800", "DBFF", "DC00", "dfff", "0000dFFF", "110000", "00110000", "200000", "7fffffff", "80000000", "80000041", "ffffffff", "FFFFFFFF"}
}

// P8.2: a number is whatever chapter 3 takes.
func TestNumbers(t *testing.T) {
	for text, want := range map[string]api.Datum{
		"0": whole(0), "007": whole(7), "+5": whole(5), "-5": whole(-5), "-0": whole(0), "1/3": complexNumber(1, 3, 0, 1), "2/4": complexNumber(1, 2, 0, 1), "-6/4": complexNumber(-3, 2, 0, 1), "4/2": whole(2), "0/5": whole(0),
		"#b101": whole(5), "#B101": whole(5), "#o17": whole(15), "#O17": whole(15), "#d10": whole(10), "#D10": whole(10), "#xfF": whole(255), "#X-a": whole(-10), "#e7": whole(7), "#E7": whole(7), "#e#x10": whole(16), "#x#e10": whole(16), "#b1/10": complexNumber(1, 2, 0, 1),
		"+i": complexNumber(0, 1, 1, 1), "-i": complexNumber(0, 1, -1, 1), "+I": complexNumber(0, 1, 1, 1), "+2i": complexNumber(0, 1, 2, 1), "1+i": complexNumber(1, 1, 1, 1), "1-2/3i": complexNumber(1, 1, -2, 3), "-1/2-I": complexNumber(-1, 2, -1, 1), "1+0i": whole(1), "#x+ai": complexNumber(0, 1, 10, 1),
	} {
		readsWhole(t, text, want)
		reads(t, text+";", want, len(text))
		readsWhole(t, "#("+text+" "+text+")", vector(want, want))
	}
	faulty(t, "1.5", ".5", "1.", "1e3", "1/", "1/-2", "1//2", "1+", "1i", "1+i+", "1+2", "+1/", "+-1", "++1", "--", "++", "-+", "+i1", "-ii", "#x", "#xg", "#b2", "#o8", "#da", "#x#x1", "#e#e1", "#i1", "#ee1", "#x+", "#e-", "#e...", "#xi", "1_000", "1٣")
}

// P8.2: a number over 0 is a fault of the text, whatever else there is.
func TestNumbersOverNought(t *testing.T) {
	faulty(t, "1/0", "0/0", "-1/000", "1+1/0i", "+1/0i", "1/0+i", "#x1/0", "(1/0)", "#(1/0)", "#vu8(1/0)", "'1/0", "(a . 1/0)", "#;1/0 a", "(a #;1/0)", "(1/0", "(1/0 "+largeNumber()+")", "("+largeNumber()+" 1/0)")
}

// P8.2: a number that chapter 3 does not hold is ErrLarge, wherever it stands in the datum, and one that it just holds is read.
func TestNumbersTooLarge(t *testing.T) {
	longest := "#x" + strings.Repeat("f", 512*8)
	d, end, e := Read(longest)
	if e != api.OK || end != len(longest) || len(d.Num.Re.Top) != 512 {
		t.Errorf("512 words: %d words, %d, error %d", len(d.Num.Re.Top), end, e)
	}
	noughts := strings.Repeat("0", 16383) + "7"
	readsWhole(t, noughts, whole(7))
	for _, number := range []string{largeNumber(), "0" + noughts, strings.Repeat("9", 60000), "1/" + strings.Repeat("9", 6000), "+" + strings.Repeat("9", 6000) + "i", strings.Repeat("9", 6000) + "/0"} {
		for _, text := range []string{"@", "(@)", "(a . @)", "#(@)", "'@", "[a @ b]", "(((@)))", "; r\n@", "(a #;b @ #|c|#)", "#;b @", "@ )", "@\"", "(@)\xff"} {
			refused(t, strings.Replace(text, "@", number, 1), api.ErrLarge)
		}
		faulty(t, number+"z", number+"'", "(a "+number, "(a . "+number+" b)", "("+number+"]", number+"\xff", "(;\xff\n"+number+")", "; \xff\n"+number)
	}
}

// P8.2: the characters that a symbol may begin with, and those that may stand only behind another one.
func TestSymbolCharacters(t *testing.T) {
	const special = "!$%&*/:<=>?^_~"
	for c := rune(0); c < 0x3000; c++ {
		text := string(c)
		first := chars.Letter(c) || strings.Contains(special, text) || c > 127 && !strings.Contains(blanks, text)
		rest := first || c >= '0' && c <= '9' || strings.Contains("+-.@", text)
		switch {
		case first:
			readsWhole(t, text, sym(text))
			readsWhole(t, text+"a", sym(text+"a"))
		case strings.Contains("+-0123456789", text): // these alone are symbols or numbers
			faulty(t, text+"a")
		case !strings.Contains(delimiters, text) && c != '\'':
			faulty(t, text, text+"a")
		}
		switch {
		case rest:
			readsWhole(t, "a"+text, sym("a"+text))
			readsWhole(t, "a"+text+"b", sym("a"+text+"b"))
			readsWhole(t, "->"+text, sym("->"+text))
		case strings.Contains(delimiters, text):
			reads(t, "a"+text, sym("a"), 1)
			reads(t, "->"+text, sym("->"), 2)
		default:
			faulty(t, "a"+text, "a"+text+"b", "->"+text)
		}
	}
	for _, c := range []rune{0xD7FF, 0xE000, 0xFEFF, 0xFFFD, 0x10000, 0x1F600, 0x10FFFF} {
		readsWhole(t, string(c), sym(string(c)))
		readsWhole(t, "a"+string(c), sym("a"+string(c)))
	}
	readsWhole(t, strings.Repeat("a", longestText), sym(strings.Repeat("a", longestText)))
	readsWhole(t, strings.Repeat("é", longestText/2), sym(strings.Repeat("é", longestText/2)))
}

// P8.2: the symbols that begin with what no other one begins with, and what begins as they do.
func TestPeculiarSymbols(t *testing.T) {
	for _, text := range []string{"+", "-", "...", "->", "->a", "->1", "->+", "->->", "->...", "->@", "->.", "a->b", "a...", "a+", "a-", "<=?", "i", "I", "x1", "e1", "!", "a.b", "list->vector", "V17a", "set!"} {
		readsWhole(t, text, sym(text))
		readsWhole(t, "["+text+"]", list(sym(text)))
	}
	faulty(t, "-a", "+a", "--", "++", "-+", "-.", "+.", "-...", "->'", "->#", "->\\", "->\\x;", "->|", "-1a", "+1a", "-@", "+@", "-\\x3e;a", "-\\x41;", "+\\x41;",
		".", "..", "....", ".....", "...a", "...1", "....", "...\\x41;", "..\\x2e;", ".\\x2e;.", ".a", ".1", ".+", ".->", "@", "@a", "1a", "0x1", "'", "`a", ",a", ",@a", "a,b", "a`b", "{a}", "a}", "|a|", "a|b", "\\", "\\a", "a\\", "a\\b", "a\\ b", "a\\(b")
}

// P8.2: \x, digits and ; stand for a character at the place of any first or rest character, whichever it is.
func TestSymbolEscapes(t *testing.T) {
	for text, want := range map[string]string{
		"\\x41;": "A", "\\x41;b": "Ab", "a\\x41;": "aA", "a\\x41;b": "aAb", "\\x41;\\x42;": "AB", "->\\x41;": "->A", "->a\\x41;b": "->aAb",
		"\\x31;": "1", "\\x31;2": "12", "\\x2b;": "+", "\\x2d;a": "-a", "\\x2d;>a": "->a", "\\x2e;": ".", "\\x2e;.": "..", "\\x20;": " ", "a\\x20;b": "a b", "a\\x28;": "a(", "\\x22;": "\"", "\\x3b;": ";", "a\\x3B;b": "a;b", "\\x5c;": "\\", "\\x5C;x41": "\\x41", "\\x27;": "'", "\\x23;t": "#t",
		"\\x0;": "\x00", "\\x00000000;a": "\x00a", "\\xA;": "\n", "\\x0000000A;": "\n", "\\x3bB;": "λ", "\\x85;": "\u0085", "\\xa0;": "\u00a0", "\\x2028;": "\u2028", "\\xD7FF;": "\ud7ff", "\\xe000;": "\ue000", "\\xfffd;": "\ufffd", "\\x10ffff;": "\U0010ffff", "é\\xe9;": "éé",
	} {
		readsWhole(t, text, sym(want))
		for _, behind := range []string{" ", ")", "(", "\"", ";", "\n"} {
			reads(t, text+behind, sym(want), len(text))
		}
	}
	for digits := 1; digits <= 8; digits++ {
		readsWhole(t, "a\\x"+strings.Repeat("0", digits-1)+"9;", sym("a\t"))
	}
	for _, digits := range append(notCharacters(), "", "000000041", "000000000", "4g", "g", "-41", "+41", " 41", "4 1", "4_1", "0x41", "é", "x41", "\\x41") {
		faulty(t, "\\x"+digits+";", "a\\x"+digits+";", "a\\x"+digits+";b", "->\\x"+digits+";")
	}
	faulty(t, "\\x41", "a\\x41", "a\\x41 ;", "a\\x", "\\x;", "\\X41;", "a\\X41;b", "a\\u41;", "a\\41;", "a\\\\x41;", "a\\n", "\\x41;'", "\\x41;#", "\\xff", "a\\x41;\xff", "a\\\xff41;")
}
