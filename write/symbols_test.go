package write

import (
	"strings"
	"testing"

	"sextant/datum"
)

// Of the characters up to 127, those that may begin a symbol and those that may stand behind the beginning alone, as chapter 8 lists them; and the blanks above 127.
const (
	firsts     = "abcdefghijklmnopqrstuvwxyzABCDEFGHIJKLMNOPQRSTUVWXYZ!$%&*/:<=>?^_~"
	rests      = "0123456789+-.@"
	highBlanks = "\u0085\u00a0\u2028\u2029"
)

// inPlace is how a character of a symbol is written at the beginning or behind it.
func inPlace(c rune, beginning bool) string {
	high := c > 127 && !strings.ContainsRune(highBlanks, c)
	if high || strings.ContainsRune(firsts, c) || !beginning && strings.ContainsRune(rests, c) {
		return string(c)
	}
	return `\x` + hex(c) + `;`
}

// P9.1: each character at the first place of a symbol, at a later one, and behind ->.
func TestEveryCharacterInSymbols(t *testing.T) {
	everyCharacter(func(c rune) {
		if t.Failed() {
			return
		}
		text, first, rest := string(c), inPlace(c, true), inPlace(c, false)
		if c != '+' && c != '-' {
			writes(t, sym(text), first)
		}
		writes(t, sym(text+"a"+text), first+"a"+rest)
		writes(t, sym("a"+text+"1"), "a"+rest+"1")
		writes(t, sym("->"+text), "->"+rest)
		displays(t, sym(text), text)
		displays(t, sym("->"+text+"a"), "->"+text+"a")
		if c < 0x3000 || c%97 == 0 {
			readAgain(t, sym(text))
			readAgain(t, sym(text+text))
			readAgain(t, sym("a"+text+"b"))
			readAgain(t, list(sym("->"+text+"a"), sym("-"+text), sym("+"+text), sym("..."+text)))
		}
	})
}

// P9.1, P8.2: a character of a symbol stands as it is wherever it would be read again so.
func TestSymbolsAsTheyAre(t *testing.T) {
	for c := rune(0); c < 0x3000; c++ {
		for _, name := range []string{string(c), "a" + string(c), "->" + string(c)} {
			d, end, e := datum.Read(name)
			again := e == 0 && end == len(name) && same(d, sym(name))
			if text, _ := Write(sym(name)); (text == name) != again {
				t.Errorf("the symbol %q is written as %q; read again as it is: %v", name, text, again)
			}
		}
	}
}

// P9.1: the symbols that are told by themselves, what begins as they do, and others by their texts.
func TestSymbols(t *testing.T) {
	for name, want := range map[string]string{
		"a": "a", "abc": "abc", "set!": "set!", "list->vector": "list->vector", "V17a": "V17a", "<=?": "<=?", "a.b": "a.b", "a@b": "a@b", "é": "é", "λx": "λx", "\U0001f600": "\U0001f600", "\ufffd": "\ufffd", "\ufeff": "\ufeff", "\u0080\u009f": "\u0080\u009f", "\u0660": "\u0660",
		"+": "+", "-": "-", "...": "...",
		"++": `\x2b;+`, "+a": `\x2b;a`, "+1": `\x2b;1`, "+i": `\x2b;i`, "+ ": `\x2b;\x20;`, "--": `\x2d;-`, "-a": `\x2d;a`, "-1": `\x2d;1`, "-i": `\x2d;i`, "-+": `\x2d;+`, "-.": `\x2d;.`, "- >": `\x2d;\x20;>`,
		".": `\x2e;`, "..": `\x2e;.`, "....": `\x2e;...`, "...a": `\x2e;..a`, "....a": `\x2e;...a`, ".a": `\x2e;a`, ".1": `\x2e;1`, "... ": `\x2e;..\x20;`, "a...": "a...",
		"->": "->", "->a": "->a", "->1": "->1", "->+": "->+", "->-": "->-", "->.": "->.", "->@": "->@", "->->": "->->", "->...": "->...", "-> ": `->\x20;`, "->(": `->\x28;`, "->#": `->\x23;`, "->'a": `->\x27;a`, "->a b": `->a\x20;b`, "->\x00": `->\x0;`, "->\u2028": `->\x2028;`, "->é": "->é", "->\\": `->\x5c;`, "->\"": `->\x22;`, "->\x7f": `->\x7f;`,
		"-->": `\x2d;->`, ">-": ">-", ">": ">", "a->b": "a->b", " ->": `\x20;->`, "+->": `\x2b;->`,
		"1": `\x31;`, "12": `\x31;2`, "1a": `\x31;a`, "1/2": `\x31;/2`, "0": `\x30;`, "9": `\x39;`, "a1": "a1", "@": `\x40;`, "@a": `\x40;a`, "a+": "a+", "a-": "a-", "a.": "a.",
		" ": `\x20;`, "a b": `a\x20;b`, " a": `\x20;a`, "a ": `a\x20;`, "\n": `\xa;`, "a\tb": `a\x9;b`, "\r": `\xd;`, "\u0085": `\x85;`, "a\u00a0": `a\xa0;`, "\u2029a": `\x2029;a`,
		"(": `\x28;`, ")": `\x29;`, "[a]": `\x5b;a\x5d;`, "a;b": `a\x3b;b`, "\"": `\x22;`, "()": `\x28;\x29;`, "'": `\x27;`, "a'b": `a\x27;b`, "#": `\x23;`, "#t": `\x23;t`, "a#": `a\x23;`, "#\\a": `\x23;\x5c;a`, "|": `\x7c;`, "||": `\x7c;\x7c;`, "a|b": `a\x7c;b`, "`": `\x60;`, ",": `\x2c;`, ",@a": `\x2c;@a`, "{": `\x7b;`, "}": `\x7d;`, "\\": `\x5c;`, "\\x41;": `\x5c;x41\x3b;`, "\x00": `\x0;`, "a\x1f": `a\x1f;`, "\x7f": `\x7f;`, "a\x7fb": `a\x7f;b`,
		"\x1b": `\x1b;`, "~": "~", "^_^": "^_^",
	} {
		writes(t, sym(name), want)
		displays(t, sym(name), name)
		writes(t, list(sym(name), sym(name)), "("+want+" "+want+")")
		displays(t, vector(sym(name), sym(name)), "#("+name+" "+name+")")
		writes(t, pair(sym("a"), sym(name)), "(a . "+want+")")
		readAgain(t, sym(name))
		readAgain(t, list(sym(name), vector(sym(name)), quote(sym(name))))
		readAgain(t, pair(sym(name), sym(name)))
	}
	bothAre(t, sym("quote"), "quote")
	readAgain(t, sym("quote"))
}

// P9.1: the symbol of no characters, which is not read again.
func TestSymbolOfNoCharacters(t *testing.T) {
	writes(t, sym(""), "||")
	displays(t, sym(""), "")
	writes(t, list(sym(""), vector(sym(""))), "(|| #(||))")
	displays(t, list(sym(""), vector(sym(""))), "( #())")
	writes(t, pair(sym(""), sym("")), "(|| . ||)")
	displays(t, pair(sym(""), sym("")), "( . )")
	writes(t, quote(sym("")), "'||")
	displays(t, quote(sym("")), "'")
	if _, _, e := datum.Read("||"); e == 0 {
		t.Error("|| is read")
	}
}
