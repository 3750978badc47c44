package write

import (
	"strings"
	"testing"

	"sextant/api"
)

// listTexts has lists of each form, with texts that are the same for both calls.
func listTexts() map[string]api.Datum {
	a, b, c := sym("a"), sym("b"), sym("c")
	return map[string]api.Datum{
		"(a)": list(a), "(a b)": list(a, b), "(a b c)": list(a, b, c), "(())": list(empty()), "(() ())": list(empty(), empty()), "((a) b)": list(list(a), b), "(a (b (c)))": list(a, list(b, list(c))), "((()))": list(list(empty())),
		"(a . b)": pair(a, b), "(a b . c)": dotted(c, a, b), "((a . b) . c)": pair(pair(a, b), c), "((a . b) c . a)": dotted(a, pair(a, b), c), "(() . a)": pair(empty(), a), "(a . 1)": pair(a, whole(1)), "(a . #t)": pair(a, boolean(1)), "(1 . -1/2)": pair(whole(1), complexNumber(-1, 2, 0, 1)),
		"(a . #(b))": pair(a, vector(b)), "(a . #())": pair(a, vector()), "(a b . #(b c))": dotted(vector(b, c), a, b), "(#() . #(#()))": pair(vector(), vector(vector())), "(a . #vu8(1))": pair(a, raw(1)), "(a . #vu8())": pair(a, raw()),
		"#()": vector(), "#(a)": vector(a), "#(a b)": vector(a, b), "#(a b c)": vector(a, b, c), "#(())": vector(empty()), "#(#())": vector(vector()), "#(#() #())": vector(vector(), vector()), "#((a . b) (c) #(a) #vu8(1 2) 3)": vector(pair(a, b), list(c), vector(a), raw(1, 2), whole(3)),
	}
}

// P9.1: lists, lists that end with something else, and vectors, as they are and inside others.
func TestLists(t *testing.T) {
	for text, d := range listTexts() {
		bothAre(t, d, text)
		bothAre(t, list(d), "("+text+")")
		bothAre(t, vector(d, d), "#("+text+" "+text+")")
		bothAre(t, pair(d, sym("z")), "("+text+" . z)")
		bothAre(t, quote(d), "'"+text)
		readAgain(t, d)
		readAgain(t, pair(vector(d, d), d))
	}
	writes(t, vector(sym("a"), sym("."), sym("b")), `#(a \x2e; b)`)
	writes(t, list(sym("a"), sym("."), sym("b")), `(a \x2e; b)`)
	displays(t, list(sym("a"), sym("."), sym("b")), `(a . b)`)
}

// P9.1: a list as a cdr goes on with the one that it ends.
func TestListsAsCdrs(t *testing.T) {
	a, b, c := sym("a"), sym("b"), sym("c")
	bothAre(t, pair(a, list(b)), "(a b)")
	bothAre(t, pair(a, pair(b, c)), "(a b . c)")
	bothAre(t, pair(a, pair(b, pair(c, empty()))), "(a b c)")
	bothAre(t, pair(list(a), list(b)), "((a) b)")
	bothAre(t, pair(a, list(list(b), c)), "(a (b) c)")
}

// P9.1: a list of two items of which the first is the symbol quote, wherever it stands, and what only looks like one.
func TestQuotations(t *testing.T) {
	q, x, y := sym("quote"), sym("x"), sym("y")
	for text, d := range map[string]api.Datum{
		"'x": quote(x), "''x": quote(quote(x)), "'''x": quote(quote(quote(x))), "'()": quote(empty()), "'(x y)": quote(list(x, y)), "'(x . y)": quote(pair(x, y)), "'#(x)": quote(vector(x)), "'1": quote(whole(1)), "'quote": quote(q), "'#t": quote(boolean(1)), "'#vu8(1)": quote(raw(1)),
		"(quote)": list(q), "(quote x y)": list(q, x, y), "(quote . x)": pair(q, x), "(quote x . y)": dotted(y, q, x), "(quote quote x)": list(q, q, x), "((quote))": list(list(q)), "'(quote)": quote(list(q)), "'(quote x y)": quote(list(q, x, y)), "(quote 'x y)": list(q, quote(x), y), "(quote . #(x))": pair(q, vector(x)), "(quote x . #())": dotted(vector(), q, x),
		"('x)": list(quote(x)), "('x 'y)": list(quote(x), quote(y)), "(x 'y)": list(x, quote(y)), "(''x)": list(quote(quote(x))), "#('x)": vector(quote(x)), "#(quote x)": vector(q, x), "('x . y)": pair(quote(x), y), "('quote x)": list(quote(q), x),
		"(x quote y)": pair(x, quote(y)), "(x y quote x)": dotted(quote(x), x, y), "('x quote y)": pair(quote(x), quote(y)), "(x quote . y)": pair(x, pair(q, y)), "(x quote)": list(x, q), "(x quote 'y)": pair(x, quote(quote(y))), "(quote quote quote)": list(q, q, q),
		"(quote1 x)": list(sym("quote1"), x), "(Quote x)": list(sym("Quote"), x), "(quot x)": list(sym("quot"), x), "(quasiquote x)": list(sym("quasiquote"), x), "(unquote x)": list(sym("unquote"), x),
	} {
		bothAre(t, d, text)
		bothAre(t, vector(x, d), "#(x "+text+")")
		bothAre(t, list(d, y), "("+text+" y)")
		readAgain(t, d)
		readAgain(t, quote(d))
	}
	writes(t, list(str("quote"), x), `("quote" x)`)
	displays(t, list(str("quote"), x), `(quote x)`)
	bothAre(t, list(other("quote"), x), `(#<quote> x)`)
	writes(t, quote(str("x\n")), `'"x\n"`)
	displays(t, quote(str("x\n")), "'x\n")
	writes(t, quote(char('\'')), `'#\'`)
	displays(t, quote(char('\'')), "''")
}

// P9.1: Display shows what is inside others as it shows it alone.
func TestDisplayInside(t *testing.T) {
	inner := []api.Datum{char('a'), char(' '), str("b\"\n"), str(""), sym("c d"), sym("")}
	displays(t, list(inner...), "(a   b\"\n  c d )")
	displays(t, vector(inner...), "#(a   b\"\n  c d )")
	displays(t, dotted(str(";"), inner...), "(a   b\"\n  c d  . ;)")
	displays(t, list(vector(list(str("\\")))), `(#((\)))`)
	writes(t, list(inner...), `(#\a #\space "b\"\n" "" c\x20;d ||)`)
	writes(t, vector(inner...), `#(#\a #\space "b\"\n" "" c\x20;d ||)`)
	writes(t, dotted(str(";"), inner...), `(#\a #\space "b\"\n" "" c\x20;d || . ";")`)
	writes(t, list(vector(list(str("\\")))), `(#(("\\")))`)
}

// P9.1: MaxNodes nodes, in lists and in vectors.
func TestMostNodes(t *testing.T) {
	a := sym("a")
	as := func(n int) string { return strings.Repeat("a ", n-1) + "a" }
	for text, d := range map[string]api.Datum{
		"#(" + as(19999) + ")":                              vector(repeated(a, 19999)...),
		"(" + as(9999) + " . #(a))":                         dotted(vector(a), repeated(a, 9999)...),
		"(" + strings.Repeat("() ", 9998) + "#(a))":         list(append(repeated(empty(), 9998), vector(a))...),
		"#(" + strings.Repeat("'a ", 3999) + "a a a a)":     vector(append(repeated(quote(a), 3999), repeated(a, 4)...)...),
		"#(" + strings.Repeat("(a . a) ", 6666) + "#vu8())": vector(append(repeated(pair(a, a), 6666), raw())...),
	} {
		if count(d) > mostNodes || count(d) < mostNodes-1 {
			t.Fatalf("the test has laid %d nodes", count(d))
		}
		bothAre(t, d, text)
		if len(text) <= longestText {
			readAgain(t, d)
		}
	}
}

// P9.1: MaxDepth nodes on a way, by pairs' firsts, by vectors, by quotations and by all of them, with long lists of seconds between.
func TestDeepest(t *testing.T) {
	for _, of := range []struct {
		around    func(d api.Datum) api.Datum
		open, end string
	}{
		{func(d api.Datum) api.Datum { return list(d) }, "(", ")"},
		{func(d api.Datum) api.Datum { return pair(d, sym("b")) }, "(", " . b)"},
		{func(d api.Datum) api.Datum { return vector(d) }, "#(", ")"},
		{func(d api.Datum) api.Datum { return vector(sym("b"), d, sym("b")) }, "#(b ", " b)"},
		{quote, "'", ""},
		{func(d api.Datum) api.Datum { return dotted(list(d), repeated(sym("b"), 40)...) }, "(" + strings.Repeat("b ", 40), ")"},
	} {
		d := sym("a")
		for range deepest - 1 {
			d = of.around(d)
		}
		bothAre(t, d, strings.Repeat(of.open, deepest-1)+"a"+strings.Repeat(of.end, deepest-1))
		readAgain(t, d)
		refused(t, "one node too many on a way", of.around(d))
	}
}
