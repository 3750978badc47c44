package pattern

import (
	"slices"
	"strconv"
	"strings"
	"testing"

	"sextant/api"
)

// P17.1: no variable, one and several, with their order and their depths.
func TestVars(t *testing.T) {
	for _, of := range []struct{ p, literals, want string }{
		{"()", "", ""},
		{"#()", "", ""},
		{"5", "", ""},
		{"_", "", ""},
		{"(_ _ . _)", "", ""},
		{"(_ ...)", "", ""},
		{"(1 ... \"a\" #\\a #t #vu8(1) . ())", "", ""},
		{"else", "else", ""},
		{"(else ... => . =>)", "else =>", ""},
		{"a", "", "a/0"},
		{"(a)", "", "a/0"},
		{"#(a)", "", "a/0"},
		{"(_ . a)", "", "a/0"},
		{"((((a))))", "", "a/0"},
		{"(b a)", "", "b/0 a/0"},
		{"(b a . c)", "", "b/0 a/0 c/0"},
		{"(c (b) #(a e) . d)", "", "c/0 b/0 a/0 e/0 d/0"},
		{"((z y) . #(x (w . v)))", "", "z/0 y/0 x/0 w/0 v/0"},
		{"(a ...)", "", "a/1"},
		{"#(a ...)", "", "a/1"},
		{"(a b ...)", "", "a/0 b/1"},
		{"(a b ... c d)", "", "a/0 b/1 c/0 d/0"},
		{"(a b ... c . d)", "", "a/0 b/1 c/0 d/0"},
		{"(a ... . b)", "", "a/1 b/0"},
		{"#(a b ... c)", "", "a/0 b/1 c/0"},
		{"((a ...) ...)", "", "a/2"},
		{"(((a ...) ...) ...)", "", "a/3"},
		{"#(#(#(a ...) ...) ...)", "", "a/3"},
		{"(#((a ...) ...) ...)", "", "a/3"},
		{"((a b ... c) ... d)", "", "a/1 b/2 c/1 d/0"},
		{"((a ... . b) ... . c)", "", "a/2 b/1 c/0"},
		{"((a ...) (b ...) ... (c ...))", "", "a/1 b/2 c/1"},
		{"((a (b c ...) ... d) ...)", "", "a/1 b/2 c/3 d/1"},
		{"(a ... . #(b ...))", "", "a/1 b/1"},
		{"(a ... . #(b ... #(c ...)))", "", "a/1 b/1 c/1"},
		{"#((a ... . #(b ...)) ... c)", "", "a/2 b/2 c/0"},
		{"(a (b c ...) ... _ . d)", "a", "b/1 c/2 d/0"},
		{"(a b c)", "b", "a/0 c/0"},
		{"(a b c)", "b a c", ""},
		{"(a b)", "c d", "a/0 b/0"},
		{"(a A é ->)", "", "a/0 A/0 é/0 ->/0"},
	} {
		hasVars(t, one(of.p), words(of.literals), of.want)
	}
	hasVars(t, one("(a \\x20; \\x0;)"), []string{" ", "\x00"}, "a/0")
	hasVars(t, void(), nil, "")
	hasVars(t, list(other("a"), void(), sym("a")), nil, "a/0")
}

// P17.1: the shape of a text does not matter: (a . (b ...)) is (a b ...).
func TestVarsOfTails(t *testing.T) {
	hasVars(t, one("(a . (b ...))"), nil, "a/0 b/1")
	hasVars(t, one("(a . (... . (b)))"), nil, "a/1 b/0")
	hasVars(t, one("(a ... . (b . c))"), nil, "a/1 b/0 c/0")
	hasVars(t, one("'a"), nil, "quote/0 a/0")
	noVars(t, one("(a ... . (b ...))"), nil, api.ErrForms)
}

// faults are patterns that are none.
func faults() []string {
	return []string{
		"...", "(...)", "#(...)", "(... a)", "(... a b)", "(... . a)", "#(... a)", "(... ...)", "(... ... a)", "#(... ...)", "(... _)",
		"(a . ...)", "(a b . ...)", "(a ... . ...)", "(() . ...)", "(... . ...)",
		"(a ... ...)", "(a ... ... b)", "#(a ... ...)", "(a ... b ...)", "(a ... b c ...)", "#(a ... b ...)", "#(a b ... c d ...)", "(a ... b ... c ...)", "(1 ... 2 ...)", "(_ ... _ ...)", "((a ...) ... (b ...) ...)", "(a ... b ... . c)",
		"(a a)", "(a . a)", "(a b a)", "(a (a))", "(a #(a))", "#(a a)", "(a ... a)", "(a a ...)", "((a) ... a)", "((a ...) (a ...))", "((a ...) ... a)", "(a b c d b . e)", "(a . #(a))", "(a ... . a)",
		"((...))", "((... a) b)", "(b (... a))", "(b ... (a ... ...))", "#(#(...))", "((a ... b ...) ...)", "((a (b #(c ... d ...))) ...)", "((a . ...) ...)", "(1 (... 1))", "(a (... ...))",
	}
}

// P17.1: each fault, wherever it stands.
func TestFaults(t *testing.T) {
	for _, s := range faults() {
		p := one(s)
		noVars(t, p, nil, api.ErrForms)
		noVars(t, p, []string{"else"}, api.ErrForms)
		for _, around := range []api.Datum{list(p), vector(p), dotted(sym("z"), p), list(list(vector(p))), list(p, sym("...")), vector(sym("y"), p, sym("..."), sym("z"))} {
			noVars(t, around, nil, api.ErrForms)
		}
		if s != "..." { // which may stand behind an item
			noVars(t, list(sym("x"), sym("y"), p), nil, api.ErrForms)
			noVars(t, vector(sym("x"), p, sym("z")), nil, api.ErrForms)
		}
	}
}

// P17.1: literals and _ may stand as often as they will.
func TestNoVariables(t *testing.T) {
	hasVars(t, one("(a a a . a)"), []string{"a"}, "")
	hasVars(t, one("(_ _ #(_ _ ...) . _)"), nil, "")
	hasVars(t, one("(a ... a b)"), []string{"a", "a"}, "b/0")
	hasVars(t, one("(1 1 a \"a\" \"a\")"), nil, "a/0")
	noVars(t, one("(a b b)"), []string{"a"}, api.ErrForms)
}

// P17.1: an ellipsis or _ among the literals, whether or not the pattern has it, and with other literals.
func TestReservedLiterals(t *testing.T) {
	for _, p := range read("a () 1 (a ...) (a _) _ (a b . c) #(a)") {
		for _, literals := range [][]string{{"..."}, {"_"}, {"a", "..."}, {"_", "a"}, {"x", "_", "y"}, {"...", "..."}, {"_", "..."}} {
			noVars(t, p, literals, api.ErrForms)
			noFind(t, p, literals, p, api.ErrForms)
			noFind(t, p, literals, one("(z z z z z z)"), api.ErrForms)
		}
		for _, literals := range [][]string{{".."}, {"...."}, {"__"}, {""}, {"\xff"}, {"…"}, {" _"}, nil, {}} {
			if _, e := Vars(p, literals); e != api.OK {
				t.Errorf("Vars(%s, %q): error %d", brief(p), literals, e)
			}
		}
	}
}

// P17.1: what is nearly ... or _ is a variable.
func TestNearlyReserved(t *testing.T) {
	for _, text := range []string{"..", "....", ".", "__", "", "…", "_.", "._", "_..."} {
		hasVars(t, list(sym("a"), sym(text)), []string{"a"}, text+"/0")
		noVars(t, list(sym(text), sym(text)), nil, api.ErrForms)
		finds(t, vector(sym(text)), nil, vector(one("5")), api.Match{Name: text, Value: one("5")})
	}
}

// P17.1: a datum that is not sound comes ahead of a pattern at fault.
func TestUnsoundPatterns(t *testing.T) {
	for _, bad := range unsound() {
		noVars(t, bad, nil, api.ErrForm)
		noVars(t, bad, []string{"_", "..."}, api.ErrForm)
		noVars(t, list(sym("..."), bad), nil, api.ErrForm)
		noVars(t, vector(sym("a"), sym("a"), bad), []string{"..."}, api.ErrForm)
	}
}

// P17.1: patterns as large and as deep as they may be.
func TestLargePatterns(t *testing.T) {
	var items []api.Datum
	var want []string
	for i := range mostNodes/2 - 1 {
		items = append(items, sym("v"+strconv.Itoa(i)))
		want = append(want, "v"+strconv.Itoa(i)+"/0")
	}
	hasVars(t, list(items...), nil, strings.Join(want, " "))
	hasVars(t, vector(items...), nil, strings.Join(want, " "))
	noVars(t, list(append(items[:len(items)-1:len(items)-1], items[0])...), nil, api.ErrForms)
	noVars(t, vector(append(items, items[0])...), nil, api.ErrForms)
	noVars(t, list(append(items, items[0], items[1])...), nil, api.ErrForm)
	many := make([]string, 100000)
	for i := range many {
		many[i] = "v" + strconv.Itoa(i+1)
	}
	hasVars(t, list(items...), many, "v0/0")
	p := sym("a")
	for range deepest - 1 {
		p = vector(p, sym("..."))
	}
	hasVars(t, p, nil, "a/199")
	noVars(t, vector(p), nil, api.ErrForm)
	noVars(t, list(slices.Concat(times(sym("_"), 5), times(sym("..."), 5000))...), nil, api.ErrForms)
}
