package datum

import (
	"slices"
	"strconv"
	"strings"
	"testing"

	"sextant/api"
)

// P8.2: lists in brackets of both kinds, with anything between.
func TestLists(t *testing.T) {
	a, b, c := sym("a"), sym("b"), sym("c")
	for text, want := range map[string]api.Datum{
		"()": empty(), "[]": empty(), "( )": empty(), "[ \n]": empty(), "(;x\n)": empty(), "(#|x|#)": empty(), "(#;x)": empty(),
		"(a)": list(a), "[a]": list(a), "( a )": list(a), "(a b c)": list(a, b, c), "[a b c]": list(a, b, c), "(a\tb\u2028c)": list(a, b, c),
		"(())": list(empty()), "([])": list(empty()), "[()]": list(empty()), "(() ())": list(empty(), empty()), "((a)b)": list(list(a), b), "[(a)[b]c]": list(list(a), list(b), c), "(a(b(c)))": list(a, list(b, list(c))),
		"(1 #t #\\a \"s\" a #(1) #vu8(1) 'a)": list(whole(1), boolean(1), char('a'), str("s"), a, vector(whole(1)), raw(1), list(sym("quote"), a)),
	} {
		readsWhole(t, text, want)
		reads(t, text+" x", want, len(text))
	}
}

// P8.2: dotted lists, with one or more data ahead of the dot and one behind it.
func TestDottedLists(t *testing.T) {
	a, b, c := sym("a"), sym("b"), sym("c")
	for text, want := range map[string]api.Datum{
		"(a . b)": pair(a, b), "[a . b]": pair(a, b), "(a b . c)": dotted(c, a, b), "[a b . c]": dotted(c, a, b), "(a . ())": list(a), "(a . (b))": list(a, b), "(a . [b . c])": dotted(c, a, b), "(a . (b . (c . ())))": list(a, b, c),
		"(a . #(b))": pair(a, vector(b)), "(a . \"b\")": pair(a, str("b")), "(a . 'b)": list(a, sym("quote"), b), "('a . b)": pair(list(sym("quote"), a), b), "((a . b) . (c . a))": pair(pair(a, b), pair(c, a)),
		"(a .(b))": list(a, b), "((a). b)": pair(list(a), b), "(\"a\". b)": pair(str("a"), b), "(\"a\".\"b\")": pair(str("a"), str("b")), "((a).(b))": list(list(a), b), "(a .;x\nb)": pair(a, b), "(a\n.\nb)": pair(a, b), "(a\u2029.\u00a0b)": pair(a, b),
		"(a #;x . b)": pair(a, b), "(a . #;x b)": pair(a, b), "(a . b #;x)": pair(a, b), "(a . b;x\n)": pair(a, b), "(a #|x|# . #|y|# b #|z|#)": pair(a, b),
		"(a . ...)": pair(a, sym("...")), "(a . b.c)": pair(a, sym("b.c")), "(a.b . c)": pair(sym("a.b"), c), "(a.b)": list(sym("a.b")), "(a . -)": pair(a, sym("-")), "(a . 1)": pair(a, whole(1)), "(1 . 2)": pair(whole(1), whole(2)),
	} {
		readsWhole(t, text, want)
	}
	faulty(t,
		"(. a)", "[. a]", "(.)", "( . )", "(. )", "(#;a . b)", "(.(a))", "(;x\n. a)", // nothing ahead
		"(a .)", "(a . )", "[a .]", "(a b . )", "(a . #;b)", "(a . ;b\n)", "(a .;b\n)", // nothing behind
		"(a . b c)", "[a . b c]", "(a . b . c)", "(a . . b)", "(a . b .)", "(a . () ())", "(a . b 'c)", "(a . b (c))", // two behind
		"(a .b)", "(a .1)", "(1 .5)", "(a .. b)", "(a .' b)", "(a '. b)", "(a .#t)", "(a .é)", "(a .#(b))", "(a .|b|)", // no dot that stands alone
		".", ". ", ".a", " . a", "'.", "'. a", "#;. a", "(a . b", "(a .", "(a . ", "(a . b]", "[a . b)", "(a ] . b)",
	)
}

// P8.2: brackets that do not fit, or are not there.
func TestBrackets(t *testing.T) {
	faulty(t, ")", "]", "(", "[", "(]", "[)", "[a)", "(a]", "((a)", "((a]", "[(a]]", "([a)]", "([)]", "(a . b]", "#(a]", "#(", "#(a", "#vu8(1]", "#vu8(", "#vu8(1", "#[a]", "( a ; )", "(a #| )", "(a #;)", "(a #; ", "(\")", "{}", "(a}")
	reads(t, "(a))", list(sym("a")), 3)
	reads(t, "(a)]", list(sym("a")), 3)
	reads(t, "#(a))", vector(sym("a")), 4)
}

// P8.2: vectors, which have no dot.
func TestVectors(t *testing.T) {
	a, b := sym("a"), sym("b")
	for text, want := range map[string]api.Datum{
		"#()": vector(), "#( )": vector(), "#(;x\n)": vector(), "#(#;a)": vector(), "#(a)": vector(a), "#( a b )": vector(a, b), "#(a(b)#(a)b)": vector(a, list(b), vector(a), b), "#(#())": vector(vector()), "#(())": vector(empty()), "#('a)": vector(list(sym("quote"), a)), "#(1 \"s\" #\\))": vector(whole(1), str("s"), char(')')),
	} {
		readsWhole(t, text, want)
		readsWhole(t, "("+text+text+")", list(want, want))
	}
	faulty(t, "#(a . b)", "#(. a)", "#(.)", "#(a .)", "# (a)", "#\n(a)", "#;(a", "##(a)", "#vu(a)", "#'(a)")
}

// P8.2: bytevectors, of whole numbers from 0 to 255 in whatever form chapter 3 takes them.
func TestBytevectors(t *testing.T) {
	for text, want := range map[string]api.Datum{
		"#vu8()": raw(), "#vu8( )": raw(), "#vu8(;x\n)": raw(), "#vu8(0)": raw(0), "#vu8(255)": raw(255), "#vu8(0 1 254 255)": raw(0, 1, 254, 255), "#vu8(#xff #b10 #o17 #e9)": raw(255, 2, 15, 9), "#vu8(-0 +7 007)": raw(0, 7, 7), "#vu8(4/2 510/2 0/3)": raw(2, 255, 0), "#vu8(3+0i)": raw(3), "#vu8(1 #;256 2 #|300|# 3 ;4\n)": raw(1, 2, 3),
	} {
		readsWhole(t, text, want)
	}
	faulty(t, "#vu8(256)", "#vu8(-1)", "#vu8(1000)", "#vu8(257)", "#vu8(65536)", "#vu8(4294967296)", "#vu8(18446744073709551616)", "#vu8(-256)", "#vu8(1/2)", "#vu8(511/2)", "#vu8(-1/2)", "#vu8(+i)", "#vu8(1+i)", "#vu8(1/0)",
		"#vu8(a)", "#vu8(#t)", "#vu8(#\\a)", "#vu8(\"a\")", "#vu8(())", "#vu8((1))", "#vu8('1)", "#vu8(#(1))", "#vu8(#vu8(1))", "#vu8(1 . 2)", "#vu8(1 . (2))", "#vu8(. 1)", "#vu8(1 2 256)", "#vu8(256 1)", "#vu8(1 a 2)", "#vu8(1a)", "#vu8", "#vu8 (1)", "#vu8[1]", "#vu8(1]", "#vu8(1.5)", "#;#vu8(256) a")
	for n := range 512 {
		text := "#vu8(" + strconv.Itoa(n) + ")"
		if n < 256 {
			readsWhole(t, text, raw(byte(n)))
		} else {
			faulty(t, text)
		}
	}
	readsWhole(t, "#vu8("+strings.Repeat("7 ", 30000)+")", raw([]byte(strings.Repeat("\x07", 30000))...)) // one node, however long
}

// P8.2: ' and a datum, with anything between, is a list of two.
func TestAbbreviations(t *testing.T) {
	quote := func(d api.Datum) api.Datum { return list(sym("quote"), d) }
	a := sym("a")
	for text, want := range map[string]api.Datum{
		"'a": quote(a), "' a": quote(a), "'\na": quote(a), "';x\na": quote(a), "'#|x|#a": quote(a), "'#;x a": quote(a), "''a": quote(quote(a)), "'''a": quote(quote(quote(a))), "' ' a": quote(quote(a)), "'()": quote(empty()), "'(a)": quote(list(a)), "'[a]": quote(list(a)), "'#(a)": quote(vector(a)), "'\"a\"": quote(str("a")), "'1": quote(whole(1)), "'#t": quote(boolean(1)), "'#\\'": quote(char('\'')), "'#vu8(1)": quote(raw(1)), "'quote": quote(sym("quote")), "'(quote a)": quote(quote(a)), "('a 'a)": list(quote(a), quote(a)), "(''a)": list(quote(quote(a))), "(quote a)": quote(a), "(quote . ('a))": quote(quote(a)), "(quote . 'a)": list(sym("quote"), sym("quote"), a),
	} {
		readsWhole(t, text, want)
	}
	faulty(t, "'", "''", "' ", "';a", "'#|a|#", "'#;a", "')", "(')", "(a ')", "(a . ')", "('", "#(')", "[']", "'.", "(' . a)", "a'b", "'a'b", "1'a", "`a", ",a", ",@a", "#'a", "#`a", "'\xff", "' \xff")
}

// P8.2: a datum has MaxNodes nodes or is ErrLarge; how they are spread does not matter.
func TestReadNodes(t *testing.T) {
	for what, of := range map[string]struct {
		text func(n int) string
		most int // the greatest n that is read
	}{
		"a list":            {func(n int) string { return "(" + strings.Repeat("a ", n) + ")" }, 9999},                   // 2 n + 1
		"a dotted list":     {func(n int) string { return "(" + strings.Repeat("a ", n) + ". #(a))" }, 9999},             // 2 n + 2
		"a list of lists":   {func(n int) string { return "(" + strings.Repeat("[]", n) + ")" }, 9999},                   // 2 n + 1
		"a vector":          {func(n int) string { return "#(" + strings.Repeat("a ", n) + ")" }, 19999},                 // n + 1
		"a vector of lists": {func(n int) string { return "#(" + strings.Repeat("(a)", n) + "a a)" }, 6665},              // 3 n + 3
		"quotations":        {func(n int) string { return "#(" + strings.Repeat("'a ", n) + "a a a)" }, 3999},            // 5 n + 4
		"strings":           {func(n int) string { return "#(" + strings.Repeat(`""`, n) + ")" }, 19999},                 // n + 1
		"bytevectors":       {func(n int) string { return "#(" + strings.Repeat("#vu8(1 2)", n) + ")" }, 7000},           // they are as many as the text can hold
		"with remarks":      {func(n int) string { return "#(#;(a b c (d))" + strings.Repeat("a ", n) + "#;a)" }, 19999}, // n + 1
	} {
		d, end, e := Read(of.text(of.most))
		if e != api.OK || end != len(of.text(of.most)) || count(d) > mostNodes || !Sound(d) {
			t.Errorf("%s of %d: %d nodes, %d, error %d", what, of.most, count(d), end, e)
		}
		if of.most != 7000 {
			refused(t, of.text(of.most+1), api.ErrLarge)
			refused(t, of.text(of.most+1)+")", api.ErrLarge)
			faulty(t, of.text(of.most + 1)[:len(of.text(of.most+1))-1], "("+of.text(of.most+1)+"]")
		}
	}
}

// P8.2: a datum has MaxDepth nodes on a way or is ErrLarge, by whatever it is deep.
func TestReadDepth(t *testing.T) {
	for what, of := range map[string]struct{ open, close string }{
		"lists": {"(", ")"}, "brackets": {"[", "]"}, "vectors": {"#(", ")"}, "quotations": {"'", ""}, "later items": {"(a b ", ")"}, "vectors' last": {"#(a ", ")"}, "dotted": {"(", " . a)"}, "both": {"([", "])"}, "lists in vectors": {"#((", "))"}, "quoted lists": {"'(", ")"},
	} {
		steps := strings.Count(of.open, "(") + strings.Count(of.open, "[") + strings.Count(of.open, "'")
		for n := deepest/steps - 2; n <= deepest/steps+1; n++ {
			text := strings.Repeat(of.open, n) + "a" + strings.Repeat(of.close, n)
			if n*steps+1 <= deepest {
				d, end, e := Read(text)
				if e != api.OK || end != len(text) || depth(d) != n*steps+1 {
					t.Errorf("%s, %d: %d, error %d, depth %d", what, n, end, e, depth(d))
				}
				continue
			}
			refused(t, text, api.ErrLarge)
			refused(t, text+" )", api.ErrLarge)
			faulty(t, "("+text, text[:len(text)-len(of.close)-1]+")", "(\xff"+text+")")
			reads(t, "#;"+text+" b", sym("b"), len(text)+4)
		}
	}
	for _, open := range []string{"(", "[", "#(", "'", "(a ", "#;", "(#;", "#|", "(a . ("} {
		faulty(t, strings.Repeat(open, longestText/len(open)))
	}
	n := longestText / 2
	refused(t, strings.Repeat("(", n)+strings.Repeat(")", n), api.ErrLarge)
	refused(t, strings.Repeat("'", 2*n-1)+"a", api.ErrLarge)
	faulty(t, strings.Repeat("(", n)+strings.Repeat(")", n-1)+"]")
}

// P8.2: the seconds of pairs are not counted, in whatever way they are written.
func TestReadLongLists(t *testing.T) {
	atoms := slices.Repeat([]api.Datum{sym("a")}, 9999)
	readsWhole(t, "("+strings.Repeat("a ", 9999)+")", list(atoms...))
	readsWhole(t, strings.Repeat("(a . ", 5000)+"b"+strings.Repeat(")", 5000), dotted(sym("b"), atoms[:5000]...))
	refused(t, strings.Repeat("(a . ", 10000)+"b"+strings.Repeat(")", 10000), api.ErrLarge)
	deep := strings.Repeat("(", deepest-2) + "a" + strings.Repeat(")", deepest-2)
	text := "(" + strings.Repeat("a ", 500) + deep + ")"
	d, end, e := Read(text)
	if e != api.OK || end != len(text) || depth(d) != deepest {
		t.Errorf("a list with a deep item at its end: %d, error %d, depth %d", end, e, depth(d))
	}
	refused(t, "("+strings.Repeat("a ", 500)+"("+deep+"))", api.ErrLarge)
}
