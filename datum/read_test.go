package datum

import (
	"strings"
	"testing"

	"sextant/api"
)

// The chapter's examples.
func TestExamples(t *testing.T) {
	a, b := sym("a"), sym("b")
	reads(t, "(a . (b))x", list(a, b), 9)
	reads(t, "#;1 2", whole(2), 5)
	readsWhole(t, "'a", list(sym("quote"), a))
	faulty(t, "[a)", ")", "(a . )", "(. a)", "#\\xD800", "\"a", "1a", "#vu8(256)", "'")
	refused(t, "; a", api.ErrEnd)
	readsWhole(t, "#\\(", char('('))
	readsWhole(t, "a\\x41;", sym("aA"))
	readsWhole(t, "-", sym("-"))
	faulty(t, "-a")
	readsWhole(t, "->a", sym("->a"))
	faulty(t, "#!r6rs")
	allAre(t, "1 (2) x", whole(1), list(whole(2)), sym("x"))
	allRefused(t, "1 ) 2", api.ErrText, 1)
}

// P8.2: the place behind the datum is told in bytes, with what stands ahead of it, and nothing behind it.
func TestPlaces(t *testing.T) {
	for text, want := range map[string]api.Datum{
		"a": sym("a"), "é": sym("é"), "λx": sym("λx"), "\U0001f600": sym("\U0001f600"), "\"é\u2028λ\"": str("é\nλ"), "\"a\r\nb\"": str("a\nb"), "\"\\x3bb;\"": str("λ"), "#\\é": char('é'), "#\\\u2028": char(0x2028), "(é\u00a0λ)": list(sym("é"), sym("λ")), "'é": list(sym("quote"), sym("é")), "#(é)": vector(sym("é")), "12": whole(12), "#t": boolean(1), "#vu8(1)": raw(1), "()": empty(),
	} {
		for _, ahead := range []string{"", " ", "\u2028\u00a0\u0085", ";é\u2028", "#|éλ\U0001f600|#", "#;é ", "#;\"é\"", "\n\r\n "} {
			for _, behind := range []string{"", " ", ")", "\u00a0é", " \xff", "(", " #|", "\"", "\u2029)"} {
				reads(t, ahead+text+behind, want, len(ahead)+len(text))
			}
		}
	}
}

// P8.2: a text of MaxText bytes is read, and one more byte is ErrLong, whatever they are.
func TestLongTexts(t *testing.T) {
	for text, filler := range map[string]string{"a ": " ", "a ;": "x", "(a)": ")", "a \"": "\xff", "a(": "(", "1 #|": "|"} {
		long := text + strings.Repeat(filler, longestText-len(text))
		d, end, e := Read(long)
		if e != api.OK || end != len(strings.TrimRight(text, " ;\"(#|")) {
			t.Errorf("%s: %s, %d, error %d", brief(long), show(d), end, e)
		}
		refused(t, long+filler, api.ErrLong)
		refused(t, long+"  ", api.ErrLong)
	}
	readsWhole(t, strings.Repeat(" ", longestText-1)+"a", sym("a"))
	readsWhole(t, strings.Repeat(";é\n", longestText/4-1)+" abc", sym("abc"))
	refused(t, strings.Repeat(" ", longestText)+"a", api.ErrLong)
	refused(t, strings.Repeat("é", longestText/2)+"a", api.ErrLong)
	refused(t, strings.Repeat("a", 1<<20), api.ErrLong)
}

// P8.2, R2: of several errors, the one that the chapter names first.
func TestWhichError(t *testing.T) {
	long := func(s string) string { return s + strings.Repeat(s, longestText/len(s)) }
	for _, s := range []string{" ", ";", "#;a ", ")", "(", "\xff", "1/0 ", "\"", "9", "'"} {
		refused(t, long(s), api.ErrLong) // ahead of ErrEnd, ErrText and ErrLarge
	}
	refused(t, "("+strings.Repeat(" ", longestText), api.ErrLong)
	large, deep := largeNumber(), strings.Repeat("(", 300)+strings.Repeat(")", 300)
	wide := "#(" + strings.Repeat("'()", 4000) + ")" // five nodes each, in few bytes
	for _, s := range []string{large, deep, wide} {
		refused(t, s, api.ErrLarge)
		refused(t, "(a "+s+")", api.ErrLarge)
		refused(t, "(a "+s+" "+s+" b)", api.ErrLarge)
		faulty(t, "("+s, "(a "+s+"]", "("+s+" . )", "(a . "+s+" b)", "(#\\ab "+s+")", "("+s+" #\\ab)", "("+s+" \"a)", "("+s+" 1/0)", "("+s+" \xff)", "("+s+" ;\xff\n)", "#|\xff|#"+s, "#;( "+s, "#;"+s+" )", "("+s+" #;)", "("+s+" #|)", "'("+s+" '", "(#vu8(256) "+s+")", "(\"\\q\""+s+")", "(.5 "+s+")")
		refused(t, "#;"+s, api.ErrEnd)
		refused(t, s+" )", api.ErrLarge)
		refused(t, s+" \xff", api.ErrLarge)
		refused(t, s+" \"", api.ErrLarge)
		refused(t, s+" #|", api.ErrLarge)
		reads(t, "a "+s, sym("a"), 1)
		reads(t, "#;"+s+" a", sym("a"), len(s)+4)
	}
	faulty(t, "#|", "#;", " #| ", ";\n#;", "#;#|", "#;;") // these are no remarks, so there is more than blanks and remarks
}

// P8.3: the data of a text, one behind the other, with blanks and remarks or with nothing between.
func TestAll(t *testing.T) {
	a, b := sym("a"), sym("b")
	for _, s := range []string{"", " ", "\n", blanks, ";", "; a", "#|a|#", "#;a", "#;#;a b", " #;a ;b\n #|c|# "} {
		allAre(t, s)
	}
	for text, want := range map[string][]api.Datum{
		"a": {a}, " a ": {a}, "a b": {a, b}, "a\nb\n": {a, b}, "a(b)": {a, list(b)}, "(a)(b)": {list(a), list(b)}, "()[]": {empty(), empty()}, "\"a\"\"b\"": {str("a"), str("b")}, "a\"b\"a": {a, str("b"), a}, "'a 'b": {list(sym("quote"), a), list(sym("quote"), b)}, "a;x\nb": {a, b}, "a #;x b": {a, b}, "a #|x|#b": {a, b}, "#;x a #;y": {a}, "a #;#;x y b": {a, b}, "a ;": {a}, "a #||#": {a}, "a #;b ;c\n": {a},
		"1 -1 1/2 +i": {whole(1), whole(-1), complexNumber(1, 2, 0, 1), complexNumber(0, 1, 1, 1)}, "#t #(a)#vu8(1)": {boolean(1), vector(a), raw(1)}, "#\\( #\\a(b)": {char('('), char('a'), list(b)}, "é\u2028λ": {sym("é"), sym("λ")},
	} {
		allAre(t, text, want...)
		allAre(t, ";x\n"+text+"\n#|y|#", want...)
	}
	allAre(t, strings.Repeat("a ", longestText/2), repeated(a, longestText/2)...)
	allAre(t, strings.Repeat("()", longestText/2), repeated(empty(), longestText/2)...)
	full := "#(" + strings.Repeat("a ", 9999) + ")"
	allAre(t, full+full+full, repeated(vector(repeated(a, 9999)...), 3)...) // each has the limits for itself
}

func repeated(d api.Datum, n int) []api.Datum {
	var out []api.Datum
	for range n {
		out = append(out, d)
	}
	return out
}

// P8.3: the first error, and the place at which the blanks ahead of its datum begin.
func TestAllErrors(t *testing.T) {
	large := largeNumber()
	deep := strings.Repeat("(", 300) + strings.Repeat(")", 300)
	for fault, e := range map[string]api.Errno{
		")": api.ErrText, "]": api.ErrText, "(": api.ErrText, "1a": api.ErrText, "\"x": api.ErrText, "#|": api.ErrText, "#;": api.ErrText, ".": api.ErrText, "'": api.ErrText, "\xff": api.ErrText, "1/0": api.ErrText, "#vu8(a)": api.ErrText, "(a . b c)": api.ErrText, "#;) b": api.ErrText,
		large: api.ErrLarge, deep: api.ErrLarge, "(a " + large + ")": api.ErrLarge, "#(" + strings.Repeat("'()", 4000) + ")": api.ErrLarge,
	} {
		for _, gap := range []string{"", " ", "\n\u2028 ", ";x\n", "#|\u00e9|#", "#;x ", " #;(x) ;y\n"} {
			allRefused(t, gap+fault, e, 0)
			allRefused(t, "(a)"+gap+fault, e, 3)
			allRefused(t, "\"é\""+gap+fault, e, 4)
			allRefused(t, " é b (c)"+gap+fault, e, 9)
			if fault != "'" && fault != "(" && fault != "\"x" && fault != "#|" && fault != "#;" {
				allRefused(t, gap+fault+" a b", e, 0)
				allRefused(t, "a \"b\""+gap+fault+" (c) d", e, 5)
				allRefused(t, "(a)"+gap+fault+" ) "+large, e, 3)
			}
		}
		allRefused(t, "a "+fault, e, 1)
		allRefused(t, "é\n"+fault, e, 2)
		allRefused(t, "a b c "+fault, e, 5)
	}
	allRefused(t, "a "+large+" )", api.ErrLarge, 1)
	allRefused(t, "a ) "+large, api.ErrText, 1)
	allRefused(t, "a ;\xff\nb", api.ErrText, 1)
	allRefused(t, "(a) b\xff", api.ErrText, 3)
	allRefused(t, "a'b", api.ErrText, 0)
	allRefused(t, "a b'c", api.ErrText, 1)
}

// P8.3: a text beyond MaxText bytes is the error of its first datum.
func TestAllLong(t *testing.T) {
	for _, s := range []string{" ", "a ", ")", "\xff", "()", ";"} {
		text := strings.Repeat(s, longestText/len(s))
		allRefused(t, text+s, api.ErrLong, 0)
		if _, at, e := All(text); e == api.ErrLong || at != 0 {
			t.Errorf("All(%s): %d, error %d", brief(text), at, e)
		}
	}
}
