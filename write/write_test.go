package write

import (
	"math/big"
	"slices"
	"strconv"
	"strings"
	"testing"

	"sextant/api"
	"sextant/datum"
)

// The chapter's examples.
func TestExamples(t *testing.T) {
	writes(t, char(10), `#\newline`)
	writes(t, char('a'), `#\a`)
	writes(t, char(0xA0), `#\xa0`)
	writes(t, str("a\"é\n"), `"a\"é\n"`)
	displays(t, str("a\"é\n"), "a\"é\n")
	writes(t, sym("a b"), `a\x20;b`)
	writes(t, sym("1"), `\x31;`)
	writes(t, sym("+"), `+`)
	writes(t, sym("-a"), `\x2d;a`)
	writes(t, quote(sym("x")), `'x`)
	writes(t, pair(whole(1), whole(2)), `(1 . 2)`)
	writes(t, list(sym("quote")), `(quote)`)
}

// P9.1: what stands for itself, alone and inside others.
func TestPlainKinds(t *testing.T) {
	for text, d := range map[string]api.Datum{
		"()": empty(), "#t": boolean(1), "#f": boolean(0), "#<void>": void(),
		"#<>": other(""), "#<procedure>": other("procedure"), "#<a b>": other("a b"), "#<a\n\"\\é\x00\u2028>": other("a\n\"\\é\x00\u2028"), "#<#<x>>": other("#<x>"), "#<'\ufffd\U0001f600>": other("'\ufffd\U0001f600"),
	} {
		bothAre(t, d, text)
		bothAre(t, vector(d, d), "#("+text+" "+text+")")
		bothAre(t, pair(d, sym("a")), "("+text+" . a)")
		bothAre(t, quote(d), "'"+text)
	}
	bothAre(t, pair(sym("a"), void()), "(a . #<void>)")
	bothAre(t, pair(sym("a"), other("x")), "(a . #<x>)")
	bothAre(t, pair(sym("a"), boolean(0)), "(a . #f)")
}

// P9.1: numbers as chapter 3's Text with radix 10, of both signs.
func TestNumbers(t *testing.T) {
	for text, d := range map[string]api.Datum{
		"0": whole(0), "1": whole(1), "-1": whole(-1), "10": whole(10), "255": whole(255), "-2147483647": whole(-2147483647),
		"1/2": complexNumber(1, 2, 0, 1), "-1/3": complexNumber(-1, 3, 0, 1), "22/7": complexNumber(22, 7, 0, 1),
		"+i": complexNumber(0, 1, 1, 1), "-i": complexNumber(0, 1, -1, 1), "+2i": complexNumber(0, 1, 2, 1), "-1/2i": complexNumber(0, 1, -1, 2), "1+i": complexNumber(1, 1, 1, 1), "-1-i": complexNumber(-1, 1, -1, 1), "1-2i": complexNumber(1, 1, -2, 1), "-1/2+5/7i": complexNumber(-1, 2, 5, 7), "3/4-16/9i": complexNumber(3, 4, -16, 9),
	} {
		bothAre(t, d, text)
		bothAre(t, list(d, vector(d)), "("+text+" #("+text+"))")
		bothAre(t, pair(sym("a"), d), "(a . "+text+")")
		readAgain(t, d)
		readAgain(t, pair(vector(d, d), d))
	}
}

// longest is the greatest natural number of as many words as there may be, and a power of two that has as many; they have no common divisor.
func longest() (ones, power []uint32) {
	ones, power = slices.Repeat([]uint32{0xFFFFFFFF}, mostWords), make([]uint32, mostWords)
	power[mostWords-1] = 1 << 31
	return ones, power
}

// P9.1: numbers of as many words as there may be; read again as far as chapter 3 reads them.
func TestLongNumbers(t *testing.T) {
	power := new(big.Int).Lsh(big.NewInt(1), 32*mostWords-1)
	ones := new(big.Int).Sub(new(big.Int).Lsh(power, 1), big.NewInt(1))
	top, bot := longest()
	one := []uint32{1}
	for text, num := range map[string]api.Num{
		ones.String():                                {Re: api.Rat{Top: top, Bot: one}, Im: api.Rat{Bot: one}},
		"-" + ones.String():                          {Re: api.Rat{Neg: true, Top: top, Bot: one}, Im: api.Rat{Bot: one}},
		"-1/" + power.String():                       {Re: api.Rat{Neg: true, Top: one, Bot: bot}, Im: api.Rat{Bot: one}},
		ones.String() + "/" + power.String():         {Re: api.Rat{Top: top, Bot: bot}, Im: api.Rat{Bot: one}},
		"+" + power.String() + "i":                   {Re: api.Rat{Bot: one}, Im: api.Rat{Top: bot, Bot: one}},
		"-" + ones.String() + "/" + "2i":             {Re: api.Rat{Bot: one}, Im: api.Rat{Neg: true, Top: top, Bot: []uint32{2}}},
		"1-" + ones.String() + "i":                   {Re: api.Rat{Top: one, Bot: one}, Im: api.Rat{Neg: true, Top: top, Bot: one}},
		power.String() + "-1/" + ones.String() + "i": {Re: api.Rat{Top: bot, Bot: one}, Im: api.Rat{Neg: true, Top: one, Bot: top}},
	} {
		d := api.Datum{Kind: api.Number, Num: num}
		bothAre(t, d, text)
		bothAre(t, list(d, d), "("+text+" "+text+")")
		readAgain(t, d)
	}
	d := api.Datum{Kind: api.Number, Num: api.Num{Re: api.Rat{Neg: true, Top: top, Bot: bot}, Im: api.Rat{Top: bot, Bot: top}}}
	text := "-" + ones.String() + "/" + power.String() + "+" + power.String() + "/" + ones.String() + "i"
	bothAre(t, d, text) // it is written, though it is too long to be read
	if _, _, e := datum.Read(text); len(text) <= longestNumber || e != api.ErrLarge {
		t.Errorf("a number of %d bytes: Read answers error %d", len(text), e)
	}
}

// P9.1: bytevectors of no items, of one and of several, and each byte.
func TestBytevectors(t *testing.T) {
	bothAre(t, raw(), "#vu8()")
	bothAre(t, raw(0), "#vu8(0)")
	bothAre(t, raw(255), "#vu8(255)")
	bothAre(t, raw(0, 1, 10, 99, 100, 127, 128, 255), "#vu8(0 1 10 99 100 127 128 255)")
	bothAre(t, vector(raw(), raw(7), raw(7, 8)), "#(#vu8() #vu8(7) #vu8(7 8))")
	bothAre(t, pair(raw(1), raw(2)), "(#vu8(1) . #vu8(2))")
	var all []byte
	var texts []string
	for n := range 256 {
		all, texts = append(all, byte(n)), append(texts, strconv.Itoa(n))
	}
	bothAre(t, raw(all...), "#vu8("+strings.Join(texts, " ")+")")
	for n := range all {
		readAgain(t, raw(all[:n]...))
		readAgain(t, vector(raw(all[n:]...), raw()))
	}
	bothAre(t, raw(make([]byte, 65536)...), "#vu8("+strings.Repeat("0 ", 65535)+"0)") // one node, however long
}

// P9.1: a text of MaxText bytes is read again; a longer one is written, too.
func TestLongTexts(t *testing.T) {
	for _, long := range []api.Datum{str(strings.Repeat("a", longestText-2)), sym(strings.Repeat("é", longestText/2)), str(strings.Repeat("\n", longestText/2-1)), vector(str(strings.Repeat("λ", longestText/2-5)), empty(), sym("a"))} {
		text, _ := Write(long)
		if len(text) != longestText {
			t.Fatalf("the test has laid out %d bytes", len(text))
		}
		readAgain(t, long)
	}
	for what, d := range map[string]api.Datum{
		`"` + strings.Repeat("a", longestText) + `"`:          str(strings.Repeat("a", longestText)),
		strings.Repeat(`\x20;`, longestText):                  sym(strings.Repeat(" ", longestText)),
		"#<" + strings.Repeat("é", longestText) + ">":         other(strings.Repeat("é", longestText)),
		"#(" + strings.Repeat(`#\space `, 19998) + `#\space)`: vector(repeated(char(' '), 19999)...),
	} {
		writes(t, d, what)
	}
	displays(t, vector(repeated(char(' '), 19999)...), "#("+strings.Repeat(" ", 19999+19998)+")")
	displays(t, str(strings.Repeat("\"\n", longestText)), strings.Repeat("\"\n", longestText))
}
