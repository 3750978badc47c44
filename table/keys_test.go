package table

import (
	"math/big"
	"slices"
	"strings"
	"testing"

	"sextant/api"
	"sextant/equal"
)

// strs are strings of those texts.
func strs(texts ...string) []api.Datum {
	var out []api.Datum
	for _, text := range texts {
		out = append(out, str(text))
	}
	return out
}

// groups are keys of a table of that kind: those of one list are one, those of two lists are not.
func groups(kind int) [][]api.Datum {
	switch kind {
	case 1:
		return slices.Concat(spelled(), laidOut(), numbers(), oneHash(), great())
	case 2:
		return texts()
	}
	return byRests()
}

// spelled are trees, each as one text or several.
func spelled() [][]api.Datum {
	var out [][]api.Datum
	for _, s := range []string{
		"a", "A", "b", "ab", "aA a\\x41;", "\\x41;a", "'a (quote a) (quote . (a))", "''a", "(quote)", "quote",
		"\"a\"", "\"A\"", "\"\"", "\" \"", "\"a \"", "\"ab\" \"a\\x62;\"", "\"aé\"", "\"aÉ\"", "\"ss\"", "\"ß\"", "\"SS\"",
		"#\\a #\\x61", "#\\A", "#\\x0 #\\nul", "#\\x1", "#\\xA #\\newline #\\linefeed", "#t #T", "#f #F",
		"(1 2) [1 2] (1 . (2)) (1 2 . ()) (1 . (2 . ()))", "(2 1)", "(1 2 3)", "(1 . 2)", "(1)", "(2)", "((1) 2)", "(1 (2))", "((1 2))", "(1 2 . 3)", "(1 2 ())", "(1 #(2))", "(())", "(() ()) (() . (())) [() . [()]]",
		"#(1 2)", "#(2 1)", "#(1 2 3)", "#(1)", "#((1 2))", "#(1 (2))", "#(#(1) 2)", "#((1) 2)", "#()", "#(())", "#(#())", "#(a)", "#(\"a\")",
		"#vu8() ", "#vu8(1 2)", "#vu8(2 1)", "#vu8(1 2 0)", "#vu8(1)", "#vu8(0)", "#vu8(0 0)", "#vu8(97)", "#vu8(255)",
		"(a (b #(c \"d\" #\\e 1/2+3i) . #vu8(7 8)))", "(a (b #(c \"d\" #\\e 1/2-3i) . #vu8(7 8)))", "(a (b #(c \"d\" #\\f 1/2+3i) . #vu8(7 8)))", "(a (b #(c \"D\" #\\e 1/2+3i) . #vu8(7 8)))", "(a (b #(c \"d\" #\\e 1/2+3i) . #vu8(7 9)))", "(a (b #(c d #\\e 1/2+3i) . #vu8(7 8)))",
	} {
		out = append(out, all(s))
	}
	return out
}

// laidOut are trees that no text has, or that may be laid out with nil and with empty lists.
func laidOut() [][]api.Datum {
	none := func(kind int) []api.Datum {
		return []api.Datum{{Kind: kind}, {Kind: kind, Raw: []byte{}, List: []api.Datum{}}, {Kind: kind, Num: api.Num{Re: api.Rat{Top: []uint32{}, Bot: []uint32{}}}}}
	}
	return [][]api.Datum{
		none(api.Nil), none(api.Void), none(api.Symbol), none(api.Other),
		{other("a")}, {other("A")}, {other("void")}, {other("()")},
		{vector(void())}, {vector(other(""))}, {vector(sym(""))}, {pair(void(), void())}, {pair(void(), empty())},
	}
}

// numbers are numbers, each told in one way or several.
func numbers() [][]api.Datum {
	var out [][]api.Datum
	for _, s := range []string{
		"0 -0 0/7 #x0 0+0i", "1 +1 01 #b1 7/7 1-0i", "-1 -7/7", "2", "10 #xA #b1010 #o12 20/2", "11", "-9", "12", "-8",
		"1/2 2/4 #e3/6 #x8/10", "-1/2 -2/4", "2/3", "1/3", "1/4", "255 #xFF #b11111111", "256 #x100",
		"+i +1i 0+i", "-i", "1+i", "1-i", "-1+i", "1+2i", "2+i", "1/2+1/3i 2/4+2/6i", "1/3+1/2i", "+1/2i",
		"4294967295", "4294967296 #x100000000", "4294967297", "-4294967296", "18446744073709551616", "1/18446744073709551616", "18446744073709551616+i", "1+18446744073709551616i",
	} {
		out = append(out, all(s))
	}
	return out
}

// oneHash are whole numbers of six words that equal.Hash takes for one another: at each of three places either two words.
func oneHash() [][]api.Datum {
	places := [3][2][2]uint32{
		{{0xa9000000, 1}, {1, 0x9b000652}},
		{{0x91000000, 1}, {0x06000001, 0xeb0002b2}},
		{{0x96000000, 1}, {0x01000001, 0xf50007b2}},
	}
	var out [][]api.Datum
	for i := range 8 {
		d := whole(1)
		d.Num.Re.Top = slices.Concat(places[0][i&1][:], places[1][i>>1&1][:], places[2][i>>2][:])
		out = append(out, []api.Datum{d})
	}
	return out
}

// great are trees at the limits, and trees that differ from them in their last node alone.
func great() [][]api.Datum {
	deep := func(d api.Datum) api.Datum {
		for range deepest - 1 {
			d = vector(d)
		}
		return d
	}
	wide := func(last string) api.Datum {
		return vector(append(repeated(empty(), mostNodes-2), sym(last))...)
	}
	long := func(last int) api.Datum {
		return list(append(repeated(sym("a"), mostNodes/2-2), whole(last))...)
	}
	text := strings.Repeat("aé\U0001f600", 10000)
	most := new(big.Int).Sub(pow2(32*mostWords), big.NewInt(1))
	return [][]api.Datum{
		{deep(sym("a")), deep(sym("a"))}, {deep(sym("b"))}, {deep(str("a"))},
		{wide("a"), wide("a")}, {wide("b")},
		{long(1), long(1)}, {long(2)},
		{str(text), str(strings.Clone(text))}, {str(text + "a")}, {str(text + "A")}, {sym(text)},
		{number(most), number(most)}, {number(new(big.Int).Neg(most))}, {number(new(big.Int).Sub(most, big.NewInt(1)))}, {number(pow2(32*mostWords - 1))},
	}
}

// texts are strings by what their Fold is.
func texts() [][]api.Datum {
	long := strings.Repeat("aÉß", 20000)
	return [][]api.Datum{
		strs("", ""), strs("a", "A"), strs("b", "B"), strs("Ab", "aB", "AB", "ab"), strs("ba", "BA"), strs("abc", "ABC", "aBc"), strs("z", "Z"), strs("[", "["), strs("{"), strs("@"), strs("`"),
		strs("straße", "STRASSE", "Strasse", "STRAßE", "sTRASSe", "Straſſe"), strs("ß", "ss", "SS", "sS", "Ss", "ſs", "Sſ"), strs("s", "S", "ſ"), strs("sss", "ßs", "sß", "Sß"), strs("ßß", "ssß", "ssss", "SßS"),
		strs("σας", "ΣΑΣ", "σασ", "Σας", "ςας"), strs("σ", "ς", "Σ"), strs("σσ", "ςς", "Σς"), strs("α", "Α"), strs("ω", "Ω"), strs("ά"), strs("Ά"),
		strs("é", "É"), strs("e", "E"), strs("e\u0301", "E\u0301"), strs("ÿ", "Ÿ"), strs("y", "Y"), strs("þ", "Þ"), strs("÷"), strs("×"),
		strs("i", "I"), strs("ı"), strs("İ"), strs("i\u0307", "I\u0307"), strs("ĸ"), strs("ŉ"), strs("ʼn", "ʼN"), strs("ĳ", "Ĳ"), strs("ij", "IJ"), strs("ā", "Ā"), strs("ĺ", "Ĺ"), strs("ŋ", "Ŋ"), strs("ž", "Ž"),
		strs("\u00b5"), strs("\u03bc", "\u039c"), strs("k", "K"), strs("\u212a"), strs("å", "Å"), strs("\u212b"), strs("ª"), strs("º"), strs("o", "O"),
		strs("а", "А"), strs("я", "Я"), strs("ѐ", "Ѐ"), strs("ё", "Ё"), strs("џ", "Џ"), strs("ѡ"), strs("Ѡ"), strs("ﬀ"), strs("ff", "FF"), strs("ａ"), strs("Ａ"),
		strs(" "), strs(" a", " A"), strs("a ", "A "), strs("a\x00", "A\x00"), strs("\x00"), strs("a\n", "A\n"), strs("1"), strs("١"), strs("-"), strs("\ufffd"), strs("\U0001f600"), strs("a\U0001f600b", "A\U0001f600B"), strs("\U0010ffff"), strs("𐐀"), strs("𐐨"),
		strs(long, strings.Repeat("AéSS", 20000), strings.Repeat("AÉss", 20000)), strs(long+"a", long+"A"), strs(long[len("aÉß"):]),
	}
}

// byRests are whole numbers by their rests by 10, as the library reckons them.
func byRests() [][]api.Datum {
	var some []*big.Int
	for n := int64(-25); n <= 25; n++ {
		some = append(some, big.NewInt(n))
	}
	for _, bits := range []int{7, 8, 31, 32, 33, 63, 64, 65, 1000, 32*mostWords - 10} {
		for n := int64(-5); n <= 5; n++ {
			above := new(big.Int).Add(pow2(bits), big.NewInt(n))
			some = append(some, above, new(big.Int).Neg(above))
		}
	}
	for n := int64(1); n <= 12; n++ {
		most := new(big.Int).Sub(pow2(32*mostWords), big.NewInt(n))
		some = append(some, most, new(big.Int).Neg(most))
	}
	out := make([][]api.Datum, 10)
	for _, n := range some {
		rest := new(big.Int).Mod(n, big.NewInt(10)).Int64() // from 0 to 9, whatever the sign
		out[rest] = append(out[rest], number(n))
	}
	return out
}

// firsts are the forms in which keys come first, if all forms of all groups come in turn.
func firsts(groups [][]api.Datum) []api.Datum {
	var out []api.Datum
	for _, forms := range groups {
		out = append(out, forms[0])
	}
	return out
}

// P13.1: all forms of all keys in one table: those that are one have one place and one value.
func TestAllKeys(t *testing.T) {
	for _, kind := range kinds() {
		all := groups(kind)
		x := tableOf(t, kind)
		for i, forms := range all {
			x.none(forms[0])
			for j, key := range forms {
				x.set(key, pair(whole(i), whole(j)))
			}
		}
		x.keys(firsts(all)...)
		for i, forms := range all {
			for _, key := range forms {
				x.get(key, pair(whole(i), whole(len(forms)-1)))
			}
		}
		for i, forms := range all {
			x.keys(firsts(all[i:])...)
			x.gone(forms[len(forms)-1])
			for _, key := range forms {
				x.none(key)
			}
		}
		x.keys()
	}
}

// few are at most n forms of a key: the first ones and the last.
func few(forms []api.Datum, n int) []api.Datum {
	if len(forms) <= n {
		return forms
	}
	return append(slices.Clone(forms[:n-1]), forms[len(forms)-1])
}

// isGreat: would it take long to hold it against all others?
func isGreat(d api.Datum) bool {
	return nodes(d) > 100 || len(d.Text) > 1000 || len(d.Num.Re.Top) > 100
}

// nodes is how many a datum has.
func nodes(d api.Datum) int {
	n := 1
	for _, item := range d.List {
		n += nodes(item)
	}
	return n
}

// P13.1: each two keys in a table of their own, whichever of them comes first. (Great ones are held against one another alone.)
func TestTwoKeys(t *testing.T) {
	for _, kind := range kinds() {
		var some, great [][]api.Datum
		for _, forms := range groups(kind) {
			if isGreat(forms[0]) {
				great = append(great, forms)
			} else {
				some = append(some, few(forms, 6))
			}
		}
		checkEachTwo(t, kind, some)
		checkEachTwo(t, kind, great)
	}
}

func checkEachTwo(t *testing.T, kind int, groups [][]api.Datum) {
	t.Helper()
	for i, a := range groups {
		for j, b := range groups {
			for _, first := range a {
				for _, second := range b {
					checkTwo(t, kind, first, second, i == j)
				}
			}
		}
	}
}

func checkTwo(t *testing.T, kind int, first, second api.Datum, one bool) {
	t.Helper()
	x := tableOf(t, kind)
	x.set(first, sym("first"))
	if !one {
		x.none(second)
		x.set(second, sym("second"))
		x.get(first, sym("first"))
		x.keys(first, second)
		x.gone(first)
		x.get(second, sym("second"))
		x.keys(second)
		return
	}
	x.get(second, sym("first"))
	x.set(second, sym("second"))
	x.get(first, sym("second"))
	x.keys(first)
	x.gone(second)
	x.none(first)
	x.keys()
	x.set(second, sym("again"))
	x.keys(second)
}

// P13.1: keys of one hash are kept apart, whichever of them goes and comes.
func TestOneHash(t *testing.T) {
	keys := firsts(oneHash())
	for _, key := range keys[1:] {
		if equal.Hash(key) != equal.Hash(keys[0]) {
			t.Log("equal.Hash has become another one, which takes these keys apart: others are to be looked for")
		}
	}
	for gone := range keys {
		x := tableOf(t, 1)
		for i, key := range keys {
			x.none(key)
			x.set(key, whole(i))
		}
		x.keys(keys...)
		c := x.copy()
		x.gone(keys[gone])
		want := slices.Delete(slices.Clone(keys), gone, gone+1)
		x.keys(want...)
		x.set(keys[gone], sym("again"))
		x.keys(append(want, keys[gone])...)
		for i, key := range keys {
			c.get(key, whole(i))
			if i != gone {
				x.get(key, whole(i))
			}
		}
		c.keys(keys...)
	}
}

// P13.1: the first form stays, whichever form comes first.
func TestFirstForm(t *testing.T) {
	for _, kind := range kinds() {
		for _, forms := range groups(kind) {
			for i, first := range few(forms, 20) {
				x := tableOf(t, kind)
				x.set(first, whole(i))
				for j, form := range few(forms, 20) {
					x.set(form, whole(j))
					x.keys(first)
				}
			}
		}
	}
}
