package pattern

import (
	"strconv"
	"strings"
	"testing"

	"sextant/api"
	"sextant/datum"
)

// The chapter's examples of Find.
func TestFindExamples(t *testing.T) {
	finds(t, one("(a b ... c)"), nil, one("(1 2 3 4)"), bound("a 0 1 b 1 (2 3) c 0 4")...)
	finds(t, one("(_ x)"), nil, one("(foo 5)"), bound("x 0 5")...)
	noFind(t, one("(a ...)"), nil, one("5"), api.ErrMatch)
	finds(t, one("(a ...)"), nil, one("()"), bound("a 1 ()")...)
}

// P17.2: a variable and _ match whatever there is.
func TestFindAnything(t *testing.T) {
	for _, d := range append(someData(), read("a ... _ (... ...) (_ . ...) #(a ...)")...) {
		finds(t, sym("a"), nil, d, api.Match{Name: "a", Value: d})
		finds(t, sym("a"), words("b c"), d, api.Match{Name: "a", Value: d})
		finds(t, sym("_"), nil, d)
		finds(t, sym("_"), words("a _a"), d)
	}
	for _, d := range someData()[:20] {
		finds(t, one("(a (_ . b) #(c))"), nil, list(d, dotted(d, d), vector(d)), api.Match{Name: "a", Value: d}, api.Match{Name: "b", Value: d}, api.Match{Name: "c", Value: d})
		finds(t, one("(a ...)"), nil, list(d, d), listed("a", d, d))
		finds(t, one("(_ ...)"), nil, list(d, d))
	}
}

// P17.2: a literal matches that symbol alone.
func TestFindLiterals(t *testing.T) {
	for i, literal := range someSymbols() {
		for j, symbol := range someSymbols() {
			if i == j {
				finds(t, literal, []string{"x", literal.Text}, symbol)
				finds(t, list(literal, sym("v")), []string{literal.Text, literal.Text}, list(symbol, symbol), api.Match{Name: "v", Value: symbol})
				continue
			}
			noFind(t, literal, []string{literal.Text}, symbol, api.ErrMatch)
			noFind(t, literal, []string{symbol.Text, literal.Text}, symbol, api.ErrMatch)
			noFind(t, vector(sym("v"), literal), []string{literal.Text}, vector(symbol, symbol), api.ErrMatch)
		}
		for _, d := range append(someData(), other(literal.Text), api.Datum{Kind: api.String, Text: literal.Text}) {
			noFind(t, literal, []string{literal.Text}, d, api.ErrMatch)
		}
		noFind(t, literal, []string{literal.Text}, list(literal), api.ErrMatch)
	}
	found(t, []finding{
		{"(else a)", "else", "(else 1)", "a 0 1"},
		{"(a => b)", "=>", "(x => =>)", "a 0 x b 0 =>"},
		{"(else ... a)", "else", "(else else 1)", "a 0 1"},
		{"((else a) ...)", "else", "((else 1) (else else))", "a 1 (1 else)"},
		{"(a . else)", "else", "(1 . else)", "a 0 1"},
		{"(a else)", "=>", "(1 2)", "a 0 1 else 0 2"},
	})
	missed(t, "else", "(else ... a) (else => 1)", "((else a) ...) ((else 1) (els 1))", "(a . else) (1 else)", "#(else) #(1)", "(else) (\"else\")")
}

// P17.2: the empty list matches itself alone, a pair pairs alone, a vector vectors alone.
func TestFindKinds(t *testing.T) {
	for _, d := range append(someData(), someSymbols()...) {
		if d.Kind == api.Nil {
			finds(t, empty(), nil, d)
		} else {
			noFind(t, empty(), nil, d, api.ErrMatch)
		}
		if d.Kind == api.Pair {
			finds(t, one("(a . b)"), nil, d, api.Match{Name: "a", Value: d.List[0]}, api.Match{Name: "b", Value: d.List[1]})
		} else {
			noFind(t, one("(a . b)"), nil, d, api.ErrMatch)
		}
		if d.Kind == api.Vector {
			finds(t, one("#(a ...)"), nil, d, listed("a", d.List...))
		} else {
			noFind(t, one("#(a ...)"), nil, d, api.ErrMatch)
		}
	}
}

// P17.2: other data match those that are the same tree.
func TestFindOtherData(t *testing.T) {
	leaf := func(d api.Datum) bool { return d.Kind != api.Pair && d.Kind != api.Vector }
	for i, p := range someData() {
		if !leaf(p) {
			continue
		}
		for j, d := range append(someData(), someSymbols()...) {
			if i == j {
				finds(t, p, nil, d)
				finds(t, list(sym("a"), p), nil, list(p, d), api.Match{Name: "a", Value: p})
				finds(t, list(p, sym("...")), nil, list(d, d, d))
				finds(t, vector(p), words("a"), vector(d))
				continue
			}
			noFind(t, p, nil, d, api.ErrMatch)
			if datum.Sound(list(p, p, d, p)) { // some are as large or as deep as they may be
				noFind(t, dotted(p, sym("a")), nil, dotted(d, empty()), api.ErrMatch)
				noFind(t, list(p, sym("...")), nil, list(p, p, d, p), api.ErrMatch)
			}
		}
	}
	missed(t, "", "1 2", "1 \"1\"", "\"a\" \"A\"", "\"a\" a", "#\\a #\\A", "#\\a \"a\"", "#t #f", "#vu8(1) #vu8(2)", "#vu8(1) #(1)", "1/2 1/3", "1 1+i", "() #()", "(1) 1")
}

// finding is a pattern, literals, a datum and what is found.
type finding struct{ p, literals, d, want string }

func found(t *testing.T, all []finding) {
	t.Helper()
	for _, of := range all {
		finds(t, one(of.p), words(of.literals), one(of.d), bound(of.want)...)
	}
}

// missed: each text has a pattern and a datum that does not match it.
func missed(t *testing.T, literals string, all ...string) {
	t.Helper()
	for _, s := range all {
		both := read(s)
		noFind(t, both[0], words(literals), both[1], api.ErrMatch)
	}
}

// P17.2: pairs and vectors without an ellipsis, as long as their patterns and not.
func TestFindPairs(t *testing.T) {
	found(t, []finding{
		{"(a)", "", "(1)", "a 0 1"},
		{"(b a)", "", "(1 2)", "b 0 1 a 0 2"},
		{"(a . b)", "", "(1)", "a 0 1 b 0 ()"},
		{"(a . b)", "", "(1 2 . 3)", "a 0 1 b 0 (2 . 3)"},
		{"(a b . c)", "", "(1 (2) 3)", "a 0 1 b 0 (2) c 0 (3)"},
		{"((a . b) c)", "", "((1 2) x)", "a 0 1 b 0 (2) c 0 x"},
		{"(a . #(b))", "", "(1 . #(2))", "a 0 1 b 0 2"},
		{"(1 a . 2)", "", "(1 x . 2)", "a 0 x"},
		{"#()", "", "#()", ""},
		{"#(a b)", "", "#(1 (2))", "a 0 1 b 0 (2)"},
		{"#(a #(b) (c))", "", "#(1 #(2) (3))", "a 0 1 b 0 2 c 0 3"},
		{"'a", "quote", "'x", "a 0 x"},
	})
	missed(t, "", "(a) ()", "(a) (1 2)", "(a) (1 . 2)", "(a b) (1)", "(a b) (1 . 2)", "(a b) (1 2 3)", "(a b . c) (1)", "((a . b) c) (1 2)", "((a) b) (() 2)", "(a . 1) (1 . 2)", "(a . 1) (1 1)", "(a . #(b)) (1 2)", "#(a) #()", "#(a) #(1 2)", "#() #(1)", "#() ()", "() #()", "#(a) (1)", "(a) #(1)", "#(a #(b)) #(1 (2))", "#((a)) #(())")
}

// P17.2: an ellipsis with nothing behind it, with items, and with a dotted end.
func TestFindEllipsis(t *testing.T) {
	found(t, []finding{
		{"(a ...)", "", "(1)", "a 1 (1)"},
		{"(a ...)", "", "(1 2 3)", "a 1 (1 2 3)"},
		{"(a b ...)", "", "(1)", "a 0 1 b 1 ()"},
		{"(a b ...)", "", "(1 (2) ())", "a 0 1 b 1 ((2) ())"},
		{"(a ... b)", "", "(1)", "a 1 () b 0 1"},
		{"(a ... b)", "", "(1 2)", "a 1 (1) b 0 2"},
		{"(a ... b)", "", "(1 2 3)", "a 1 (1 2) b 0 3"},
		{"(a b ... c d)", "", "(1 2 3)", "a 0 1 b 1 () c 0 2 d 0 3"},
		{"(a b ... c d)", "", "(1 2 3 4 5)", "a 0 1 b 1 (2 3) c 0 4 d 0 5"},
		{"(a ... . b)", "", "()", "a 1 () b 0 ()"},
		{"(a ... . b)", "", "5", "a 1 () b 0 5"},
		{"(a ... . b)", "", "#(1)", "a 1 () b 0 #(1)"},
		{"(a ... . b)", "", "(1 2)", "a 1 (1 2) b 0 ()"},
		{"(a ... . b)", "", "(1 2 . 3)", "a 1 (1 2) b 0 3"},
		{"(a ... b . c)", "", "(1)", "a 1 () b 0 1 c 0 ()"},
		{"(a ... b . c)", "", "(1 2 . 3)", "a 1 (1) b 0 2 c 0 3"},
		{"(a ... b c . d)", "", "(1 2 3 4 . 5)", "a 1 (1 2) b 0 3 c 0 4 d 0 5"},
		{"(a ... 9)", "", "(9 9 9)", "a 1 (9 9)"},
		{"(a ... . 9)", "", "(1 . 9)", "a 1 (1)"},
		{"(a ... . 9)", "", "9", "a 1 ()"},
		{"(a ... . #(b ...))", "", "(1 2 . #(3))", "a 1 (1 2) b 1 (3)"},
		{"(_ ... a)", "", "(1 2 3)", "a 0 3"},
		{"(1 ... a)", "", "(1 1 1)", "a 0 1"},
		{"((a b) ...)", "", "((1 2) (3 4))", "a 1 (1 3) b 1 (2 4)"},
		{"((a . b) ...)", "", "((1 2) (3 . 4))", "a 1 (1 3) b 1 ((2) 4)"},
		{"((a b) ... c)", "", "(5)", "a 1 () b 1 () c 0 5"},
	})
	missed(t, "", "(a ...) #(1)", "(a ...) (1 . 2)", "(a ...) \"a\"", "(a b ...) ()", "(a b ...) (1 . 2)", "(a b ...) (1 2 . 3)", "(a ... b) ()", "(a ... b) (1 . 2)", "(a ... b) (1 2 . 3)", "(a b ... c d) (1 2)", "(a b ... c d) (1 2 3 . 4)", "(a b ... c d) ()", "(a ... b . c) ()", "(a ... b . c) 5", "(a ... b c . d) (1 . 2)", "(a ... 9) (9 8)", "(a ... 9 9) (9 8 9)", "(a ... . 9) (1)", "(a ... . 9) (1 . 8)", "(a ... . #(b)) (1)", "(1 ... a) (1 2 3)", "((a b) ...) ((1 2) (3))", "((a b) ...) ((1 2) 3)", "((a) ... b) (1 2)", "((a) ... . b) (1)", "((a) ... . b) (1 . 2)")
}

// P17.2: an item that does not match is not left to what stands behind the ellipsis: how many go under it is counted alone.
func TestFindIsNotGreedy(t *testing.T) {
	missed(t, "", "(1 ... . a) (1 2)", "(1 ... 2 . a) (1 2 3)", "(1 ... . a) (1 1 . (2))")
	found(t, []finding{
		{"(1 ... . a)", "", "(1 1 . 2)", "a 0 2"},
		{"(1 ... 1)", "", "(1 1 1)", ""},
		{"(a ... 1 b)", "", "(1 1 1 1)", "a 1 (1 1) b 0 1"},
	})
}

// P17.2: an ellipsis in vectors.
func TestFindInVectors(t *testing.T) {
	found(t, []finding{
		{"#(a ...)", "", "#()", "a 1 ()"},
		{"#(a ...)", "", "#(1 2)", "a 1 (1 2)"},
		{"#(a b ...)", "", "#(1)", "a 0 1 b 1 ()"},
		{"#(a b ... c)", "", "#(1 2)", "a 0 1 b 1 () c 0 2"},
		{"#(a b ... c)", "", "#(1 2 3 4)", "a 0 1 b 1 (2 3) c 0 4"},
		{"#(a ... b c)", "", "#(1 2 3)", "a 1 (1) b 0 2 c 0 3"},
		{"#((a b ...) ...)", "", "#((1) (2 3))", "a 1 (1 2) b 2 (() (3))"},
		{"(#(a b ...) ...)", "", "(#(1) #(2 3))", "a 1 (1 2) b 2 (() (3))"},
		{"#(#(a ...) ... b)", "", "#(#(1) #() #(2 3) x)", "a 2 ((1) () (2 3)) b 0 x"},
	})
	missed(t, "", "#(a ...) ()", "#(a ...) (1)", "#(a b ...) #()", "#(a b ... c) #(1)", "#(a ... b c) #(1)", "#((a b ...) ...) #((1) ())", "#((a b ...) ...) #(#(1))", "#(1 ...) #(1 1 2)", "#(a ... 1) #(1 2)")
}

// P17.2: Lists in Lists, of each depth.
func TestFindNested(t *testing.T) {
	found(t, []finding{
		{"((a ...) ...)", "", "()", "a 2 ()"},
		{"((a ...) ...)", "", "(())", "a 2 (())"},
		{"((a ...) ...)", "", "((1 2) () (3))", "a 2 ((1 2) () (3))"},
		{"((a b ...) ...)", "", "((1 2 3) (4))", "a 1 (1 4) b 2 ((2 3) ())"},
		{"((a b ... c) ... d)", "", "((1 2) (3 4 5) x)", "a 1 (1 3) b 2 (() (4)) c 1 (2 5) d 0 x"},
		{"((a ... . b) ... . c)", "", "((1 2) 3 (4 . 5) . 6)", "a 2 ((1 2) () (4)) b 1 (() 3 5) c 0 6"},
		{"(((a b ...) ...) ...)", "", "(((1 2) (3)) () ((4 5 6)))", "a 2 ((1 3) () (4)) b 3 (((2) ()) () ((5 6)))"},
		{"(((a ...) ... . b) ...)", "", "(((1) . x) y)", "a 3 (((1)) ()) b 1 (x y)"},
		{"((((a ...) ...) ...) ...)", "", "((((1 2) ()) ()) ())", "a 4 ((((1 2) ()) ()) ())"},
		{"((a (b c ...) ... d) ...)", "", "((1 2) (3 (4) (5 6 7) 8))", "a 1 (1 3) b 2 (() (4 5)) c 3 (() (() (6 7))) d 1 (2 8)"},
	})
	missed(t, "", "((a ...) ...) (1)", "((a ...) ...) ((1) 2 (3))", "((a ...) ...) ((1 . 2))", "((a b ...) ...) ((1) ())", "(((a b ...) ...) ...) (((1) ()))", "((a b ... c) ... d) ((1 2) (3) x)", "((((1 ...) ...) ...) ...) ((((1 1) (1 2))))")
}

// R3: each Match has its four fields as the chapter says and nothing else, in the order of Vars, with the same names and depths.
func TestFindAsVars(t *testing.T) {
	for _, of := range [][2]string{
		{"(c (b) #(a e ...) . d)", "(1 (2) #(3) . 4)"},
		{"((z (y ...) ... x) ... w)", "((1 (2) 3) 4)"},
		{"#((q ... . p) ... o n)", "#(1 2 3)"},
		{"((b ...) (a ...) ... c)", "(() () ())"},
	} {
		vars, e := Vars(one(of[0]), nil)
		m, f := Find(one(of[0]), nil, one(of[1]))
		if e != api.OK || f != api.OK || len(vars) != len(m) {
			t.Fatalf("Vars and Find of %s: %s, %s, errors %d, %d", of[0], tell(vars), tell(m), e, f)
		}
		for i := range m {
			if m[i].Name != vars[i].Name || m[i].Depth != vars[i].Depth {
				t.Errorf("Vars and Find of %s: %s, %s", of[0], tell(vars), tell(m))
			}
			isLaidOut(t, m[i])
		}
	}
}

func isLaidOut(t *testing.T, m api.Match) {
	t.Helper()
	if (m.Depth == 0) == alike(m.Value, api.Datum{}) || m.Depth == 0 && len(m.List) > 0 {
		t.Errorf("a match has a Value or a List at a depth where it should not: %s", tell([]api.Match{m}))
	}
	for _, item := range m.List {
		if item.Name != m.Name || item.Depth != m.Depth-1 {
			t.Errorf("a List has a match of another name or depth: %s", tell([]api.Match{m}))
		}
		isLaidOut(t, item)
	}
}

// P17.2, R2: a datum that is not sound is ahead of a pattern at fault, and that ahead of one that does not match.
func TestFindErrors(t *testing.T) {
	for _, bad := range unsound() {
		for _, p := range read("a (a) _ (... a) (a a) ()") {
			noFind(t, p, nil, bad, api.ErrForm)
			noFind(t, p, words("_ ..."), bad, api.ErrForm)
			noFind(t, bad, nil, p, api.ErrForm)
			noFind(t, bad, words("_ ..."), p, api.ErrForm)
		}
		noFind(t, bad, nil, bad, api.ErrForm)
		noFind(t, list(sym("a"), sym("a")), nil, list(sym("a"), bad), api.ErrForm)
		noFind(t, empty(), nil, vector(bad), api.ErrForm)
	}
	for _, s := range faults() {
		for _, d := range read("() 5 (1) (1 2) (1 2 3) #(1 2) (1 . 2) ... (a ...)") {
			noFind(t, one(s), nil, d, api.ErrForms)
			noFind(t, one(s), words("else"), d, api.ErrForms)
		}
	}
	noFind(t, one("(1 a a)"), nil, one("(2 3 4)"), api.ErrForms)
	noFind(t, one("(1 a)"), words("_"), one("(2 3)"), api.ErrForms)
	noFind(t, one("(1 a)"), nil, one("(2 3)"), api.ErrMatch)
}

// P17.2: patterns and data as large and as deep as they may be.
func TestFindLarge(t *testing.T) {
	var items, p []api.Datum
	var want []api.Match
	for i := range mostNodes/2 - 1 {
		items = append(items, one(strconv.Itoa(i)))
		p = append(p, sym("v"+strconv.Itoa(i)))
		want = append(want, api.Match{Name: p[i].Text, Value: items[i]})
	}
	finds(t, list(p...), nil, list(items...), want...)
	finds(t, vector(p...), nil, vector(items...), want...)
	finds(t, one("(a ...)"), nil, list(items...), listed("a", items...))
	finds(t, one("#(a ...)"), nil, vector(items...), listed("a", items...))
	last := len(items) - 1
	finds(t, one("(a ... b)"), nil, list(items...), listed("a", items[:last]...), api.Match{Name: "b", Value: items[last]})
	finds(t, list(append([]api.Datum{sym("a"), sym("...")}, p[3:]...)...), nil, list(items...), append([]api.Match{listed("a", items[:3]...)}, want[3:]...)...)
	finds(t, list(append([]api.Datum{sym("a"), sym("...")}, p[3:]...)...), nil, list(items[3:]...), append([]api.Match{listed("a")}, want[3:]...)...)
	noFind(t, list(append([]api.Datum{sym("a"), sym("...")}, p[3:]...)...), nil, list(items[4:]...), api.ErrMatch)
	noFind(t, list(p...), nil, list(items[1:]...), api.ErrMatch)
	noFind(t, list(p...), nil, list(append(items, one("1"))...), api.ErrForm)
}

// P17.2: the greatest depths.
func TestFindDeep(t *testing.T) {
	p, d, text := sym("a"), one("5"), "5"
	for range deepest - 1 {
		p, d, text = vector(p, sym("...")), vector(d), "("+text+")"
	}
	finds(t, p, nil, d, bound("a 199 "+text)...)
	finds(t, sym("a"), nil, d, api.Match{Name: "a", Value: d})
	noFind(t, p, nil, vector(d), api.ErrForm)
	noFind(t, vector(p), nil, d, api.ErrForm)
	noFind(t, p, nil, nested(one("5"), deepest-2), api.ErrMatch)
	finds(t, p, nil, nested(vector(), deepest-2), bound("a 199 "+strings.Repeat("(", 199)+strings.Repeat(")", 199))...)
}

// What is found for nothing under an ellipsis is as much as the pattern has variables, for each item around it.
func TestFindManyEmptyLists(t *testing.T) {
	var vars []api.Datum
	var want []api.Match
	for i := range 300 {
		vars = append(vars, sym("v"+strconv.Itoa(i)))
		want = append(want, matched(vars[i].Text, 2, list(times(empty(), 1000)...)))
	}
	dots := sym("...")
	finds(t, list(list(list(vars...), dots), dots), nil, list(times(empty(), 1000)...), want...)
}
