package pattern

import (
	"slices"
	"testing"

	"sextant/api"
)

// The chapter's examples of Fill.
func TestFillExamples(t *testing.T) {
	m, e := Find(one("(a b ... c)"), nil, one("(1 2 3 4)"))
	if e != api.OK {
		t.Fatalf("error %d", e)
	}
	fills(t, one("(b ... a)"), m, one("(2 3 1)"))
	fills(t, one("((x y) ...)"), bound("x 1 (1 2) y 1 (3 4)"), one("((1 3) (2 4))"))
	noFill(t, one("((x y) ...)"), bound("x 1 (1 2) y 1 (3)"), api.ErrMatch)
	fills(t, one("(... ...)"), m, sym("..."))
	fills(t, one("(... ...)"), nil, sym("..."))
}

// P17.3: a symbol that is a name is its Value, whatever that is; other symbols and other data are themselves.
func TestFillSymbols(t *testing.T) {
	for _, d := range append(someData(), someSymbols()...) {
		fills(t, sym("v"), []api.Match{{Name: "v", Value: d}}, d)
		fills(t, d, nil, d)
		fills(t, d, []api.Match{{Name: "v", Value: sym("w")}, listed("w", d)}, d)
	}
	for _, d := range someData()[:20] {
		m := []api.Match{{Name: "v", Value: d}, {Name: "w", Value: sym("v")}}
		fills(t, list(sym("v"), d, sym("x"), sym("w")), m, list(d, d, sym("x"), sym("v")))
		fills(t, vector(sym("v"), d, sym("x"), sym("w")), m, vector(d, d, sym("x"), sym("v")))
		fills(t, dotted(sym("v"), sym("v")), m, dotted(d, d))
	}
	fills(t, one("(_ v . _)"), bound("v 0 1"), one("(_ 1 . _)"))
	fills(t, one("(_ v)"), bound("_ 0 2 v 0 1"), one("(2 1)"))
	fills(t, one("(v V va \"v\" #\\v)"), bound("v 0 1"), one("(1 V va \"v\" #\\v)"))
	fills(t, list(sym("v"), other("v")), bound("v 0 1"), list(one("1"), other("v")))
	fills(t, list(sym(""), sym("v")), []api.Match{{Value: one("1")}}, list(one("1"), sym("v")))
}

// P17.3: what stands in a Value is not filled, whatever it looks like.
func TestFillValuesAreLeft(t *testing.T) {
	for _, value := range read("v w (v w) (w ...) (... ...) ... #(...) (v . ...) '...") {
		m := []api.Match{{Name: "v", Value: value}, {Name: "w", Value: one("1")}}
		fills(t, sym("v"), m, value)
		fills(t, one("(v w)"), m, list(value, one("1")))
		fills(t, one("(x ...)"), []api.Match{listed("x", value, value)}, list(value, value))
	}
	fills(t, one("(v v)"), []api.Match{{Name: "v", Value: sym("...")}}, one("(... ...)"))
	fills(t, one("(x v)"), []api.Match{{Name: "v", Value: sym("...")}}, one("(x ...)"))
	fills(t, one("(v x)"), []api.Match{{Name: "v", Value: sym("...")}}, one("(... x)"))
	noFill(t, one("(a v)"), append(bound("a 1 (1 2)"), api.Match{Name: "v", Value: sym("...")}), api.ErrForms)
}

// P17.3: of several matches with one name the first counts, whatever its depth.
func TestFillFirstOfOneName(t *testing.T) {
	fills(t, sym("v"), bound("v 0 1 v 0 2"), one("1"))
	fills(t, sym("v"), bound("w 0 3 v 0 1 v 1 (2)"), one("1"))
	noFill(t, sym("v"), bound("v 1 (1) v 0 2"), api.ErrForms)
	fills(t, one("(v ...)"), bound("v 1 (1 2) v 1 (3) v 0 4"), one("(1 2)"))
	noFill(t, one("(v ...)"), bound("v 0 4 v 1 (1 2)"), api.ErrForms)
	fills(t, one("((v w) ...)"), bound("v 1 (1 2) w 1 (3 4) v 1 (5)"), one("((1 3) (2 4))"))
}

// P17.3: a variable of a greater depth where it may not stand.
func TestFillTooDeepVariables(t *testing.T) {
	m := bound("a 1 (1 2) b 2 ((3) (4 5)) e 1 () f 2 (() ())")
	for _, s := range []string{"a", "b", "e", "(a)", "(1 . a)", "#(a)", "((a))", "(x e)", "(b ...)", "#(b ...)", "((b) ...)", "((a b) ...)", "(a ... b)", "(a ... . b)", "(a ... . a)", "(... a)", "(... (a ...))", "(x (... (a)))", "(f f)", "(f ... f)"} {
		noFill(t, one(s), m, api.ErrForms)
	}
	fills(t, one("(1 (b ...) ...)"), m, one("(1 (3) (4 5))"))
	fills(t, one("(f ... ...)"), m, one("()"))
	fills(t, one("(e ...)"), m, one("()"))
}

// P17.3: a variable of a depth at which no List is left, and items without such a variable.
func TestFillNothingToRepeat(t *testing.T) {
	m := bound("a 1 (1 2) b 2 ((3) (4 5)) v 0 7 e 1 ()")
	for _, s := range []string{"(v ...)", "(x ...)", "(1 ...)", "(() ...)", "((v x) ...)", "(#(v) ...)", "#(1 ...)", "#(v ...)", "(1 v ... 2)", "(v ... . x)", "(a ... ...)", "(b ... ... ...)", "((a ...) ...)", "(((b ...) ...) ...)", "((a (v ...)) ...)", "(a ... v ...)", "((... v) ...)", "((... ...) ...)", "#(... ...)", "(\"a\" ...)"} {
		noFill(t, one(s), m, api.ErrForms)
	}
	noFill(t, one("(a ...)"), nil, api.ErrForms)
}

// P17.3: items with one ellipsis behind them, in lists, in dotted lists and in vectors.
func TestFillOneEllipsis(t *testing.T) {
	m := bound("a 1 (1 2 3) b 1 (4 (5) ()) e 1 () s 1 (9) v 0 7 w 0 (x y)")
	for template, want := range map[string]string{
		"(a ...)":                          "(1 2 3)",
		"(e ...)":                          "()",
		"(s ...)":                          "(9)",
		"(v a ...)":                        "(7 1 2 3)",
		"(a ... v)":                        "(1 2 3 7)",
		"(v a ... v)":                      "(7 1 2 3 7)",
		"(a ... b ...)":                    "(1 2 3 4 (5) ())",
		"(a ... e ... s ... x)":            "(1 2 3 9 x)",
		"(a ... a ...)":                    "(1 2 3 1 2 3)",
		"(a ... . v)":                      "(1 2 3 . 7)",
		"(a ... . w)":                      "(1 2 3 x y)",
		"(e ... . v)":                      "7",
		"(e ... . x)":                      "x",
		"(e ... . w)":                      "(x y)",
		"(e ... e ... . #(a ...))":         "#(1 2 3)",
		"(x e ...)":                        "(x)",
		"((a) ...)":                        "((1) (2) (3))",
		"((a v) ...)":                      "((1 7) (2 7) (3 7))",
		"((a b) ...)":                      "((1 4) (2 (5)) (3 ()))",
		"((a . b) ...)":                    "((1 . 4) (2 5) (3))",
		"((a a x) ...)":                    "((1 1 x) (2 2 x) (3 3 x))",
		"((e v) ...)":                      "()",
		"((e (x ...) . #(...)) ...)":       "()",
		"(#(a b) ...)":                     "(#(1 4) #(2 (5)) #(3 ()))",
		"#(a ...)":                         "#(1 2 3)",
		"#(e ...)":                         "#()",
		"#(v a ... b ... v)":               "#(7 1 2 3 4 (5) () 7)",
		"#((a b) ... v)":                   "#((1 4) (2 (5)) (3 ()) 7)",
		"#(#(a) ...)":                      "#(#(1) #(2) #(3))",
		"(x . #(a ...))":                   "(x . #(1 2 3))",
		"((a ...) (b ...))":                "((1 2 3) (4 (5) ()))",
		"(let ((a b) ...) v . w)":          "(let ((1 4) (2 (5)) (3 ())) 7 x y)",
		"(x ((y (z a ...)) b ...))":        "(x ((y (z 1 2 3)) 4 (5) ()))",
		"('a ...)":                         "('1 '2 '3)",
		"(((a #(v b)) . x) ...)":           "(((1 #(7 4)) . x) ((2 #(7 (5))) . x) ((3 #(7 ())) . x))",
		"((x . (y . (a . (... . ())))) z)": "((x y 1 2 3) z)",
	} {
		fills(t, one(template), m, one(want))
	}
}

// P17.3: Lists that are as long as each other, and that are not.
func TestFillLengths(t *testing.T) {
	m := bound("a 1 (1 2) b 1 (3 4) c 1 (5) d 1 () e 1 () f 2 ((1) (2 3)) g 2 ((4) (5 6)) h 2 ((7) (8)) i 2 ((9))")
	for template, want := range map[string]string{
		"((a b) ...)":         "((1 3) (2 4))",
		"((d e) ...)":         "()",
		"((a b a) ...)":       "((1 3 1) (2 4 2))",
		"((a f ...) ...)":     "((1 1) (2 2 3))",
		"((a (f g) ...) ...)": "((1 (1 4)) (2 (2 5) (3 6)))",
		"((a f) ... ...)":     "((1 1) (2 2) (2 3))",
		"((f g) ... ...)":     "((1 4) (2 5) (3 6))",
		"((f ... h ...) ...)": "((1 7) (2 3 8))",
		"((c . (i ...)) ...)": "((5 9))",
		"(a ... c ... d ...)": "(1 2 5)",
	} {
		fills(t, one(template), m, one(want))
	}
	for _, s := range []string{"((a c) ...)", "((c a) ...)", "((a b c) ...)", "((c a b) ...)", "((a d) ...)", "((d a) ...)", "((c d) ...)", "#((a c) ...)", "((a (b #(c))) ...)", "((a (... c)) ...)", "((a c ...) ...)", "((f c) ...)", "((a i) ... ...)", "(((f h) ...) ...)", "((f h) ... ...)", "((f i ...) ...)", "((a . c) ...)", "((a ... . c) ...)", "(a ... (b c) ...)"} {
		noFill(t, one(s), m, api.ErrMatch)
	}
}

// P17.3: items with several ellipses behind them.
func TestFillSeveralEllipses(t *testing.T) {
	m := bound("a 2 ((1 2) () (3)) b 3 (((1) (2 3)) () ((4))) c 2 (() ()) d 1 (x y z) e 3 () f 2 ((5 6) () (7)) v 0 9")
	for template, want := range map[string]string{
		"(a ... ...)":           "(1 2 3)",
		"((a ...) ...)":         "((1 2) () (3))",
		"(v a ... ... v)":       "(9 1 2 3 9)",
		"(a ... ... . v)":       "(1 2 3 . 9)",
		"#(a ... ...)":          "#(1 2 3)",
		"(b ... ... ...)":       "(1 2 3 4)",
		"((b ...) ... ...)":     "((1) (2 3) (4))",
		"((b ... ...) ...)":     "((1 2 3) () (4))",
		"(((b ...) ...) ...)":   "(((1) (2 3)) () ((4)))",
		"#(#(b ... ...) ...)":   "#(#(1 2 3) #() #(4))",
		"(c ... ...)":           "()",
		"((c ...) ...)":         "(() ())",
		"(e ... ... ...)":       "()",
		"(((e ...) ...) ...)":   "()",
		"((a v) ... ...)":       "((1 9) (2 9) (3 9))",
		"((d a) ... ...)":       "((x 1) (x 2) (z 3))",
		"((d a ...) ...)":       "((x 1 2) (y) (z 3))",
		"((a f) ... ...)":       "((1 5) (2 6) (3 7))",
		"((a ... f ...) ...)":   "((1 2 5 6) () (3 7))",
		"((d (b ...) ...) ...)": "((x (1) (2 3)) (y) (z (4)))",
		"((d b) ... ... ...)":   "((x 1) (x 2) (x 3) (z 4))",
	} {
		fills(t, one(template), m, one(want))
	}
	noFill(t, one("(a ...)"), m, api.ErrForms)
	noFill(t, one("(b ... ...)"), m, api.ErrForms)
	noFill(t, one("(a ... ... ...)"), m, api.ErrForms)
	noFill(t, one("(d ... ...)"), m, api.ErrForms)
	fills(t, one("(c ... ... ... ...)"), bound("c 2 ()"), one("()"))
	noFill(t, one("(c ... ... ...)"), bound("c 2 ((1))"), api.ErrForms)
	fills(t, one("(c ... ... ...)"), bound("c 2 (() ())"), one("()"))
}

// P17.3: (... T) is T, in which ellipses are symbols like others, but variables are not.
func TestFillEscapes(t *testing.T) {
	m := bound("a 1 (1 2) v 0 7")
	for template, want := range map[string]string{
		"(... ...)":                           "...",
		"(... x)":                             "x",
		"(... v)":                             "7",
		"(... (v ...))":                       "(7 ...)",
		"(... (... ...))":                     "(... ...)",
		"(... (... v))":                       "(... 7)",
		"(... (... v ...))":                   "(... 7 ...)",
		"(... #(... v ...))":                  "#(... 7 ...)",
		"(... (v . ...))":                     "(7 . ...)",
		"(... (x (y #(...)) ...))":            "(x (y #(...)) ...)",
		"(... ())":                            "()",
		"(... (1 ... ... ...))":               "(1 ... ... ...)",
		"(v (... ...))":                       "(7 ...)",
		"(v (... ...) v)":                     "(7 ... 7)",
		"((... ...) v)":                       "(... 7)",
		"((... ...) (... ...))":               "(... ...)",
		"#((... ...))":                        "#(...)",
		"((... (v ...)) a ...)":               "((7 ...) 1 2)",
		"(a ... (... ...))":                   "(1 2 ...)",
		"((a (... ...)) ...)":                 "((1 ...) (2 ...))",
		"((... (a ...)) ...)":                 "((1 ...) (2 ...))",
		"((... a) ...)":                       "(1 2)",
		"((... (a v)) ...)":                   "((1 7) (2 7))",
		"(x . #((... ...) a ...))":            "(x . #(... 1 2))",
		"((... (... ...)) a ...)":             "((... ...) 1 2)",
		"(... ((... (... ...)) ... v))":       "((... (... ...)) ... 7)",
		"((x (... (y ...))) (a (... _)) ...)": "((x (y ...)) (1 _) (2 _))",
	} {
		fills(t, one(template), m, one(want))
	}
	fills(t, one("(... ...)"), []api.Match{{Name: "...", Value: one("5")}}, one("5"))
}

// P17.3: an ellipsis elsewhere, where (... T) is not a list of two items.
func TestFillStrayEllipses(t *testing.T) {
	m := bound("a 1 (1 2) v 0 7")
	for _, s := range []string{"...", "(...)", "#(...)", "#(... ...)", "#(... v)", "(... . v)", "(... . ...)", "(... v . x)", "(... v x)", "(... ... ...)", "(... a ...)", "(... v ...)", "(v . ...)", "(a ... . ...)", "(v . #(...))", "((...) v)", "((a (...)) ...)", "(v (... v v))", "#(v #(...))", "((... v x) . v)", "(... a ... ...)", "((v . ...))"} {
		noFill(t, one(s), m, api.ErrForms)
		noFill(t, one(s), nil, api.ErrForms)
		noFill(t, one(s), append(m, api.Match{Name: "...", Value: one("5")}), api.ErrForms)
	}
}

// P17.3: T is filled for each item, so that nothing in it is found where there is none.
func TestFillNoRounds(t *testing.T) {
	m := bound("e 1 () d 2 () a 1 (1)")
	for _, s := range []string{"((e (x ...)) ...)", "((e (...)) ...)", "((e (... x y)) ...)", "((e d) ...)", "((e . ...) ...)", "(d ... ...)", "#((e (e ...)) ... d ...)"} {
		d, e := Fill(one(s), m)
		if e != api.OK || len(d.List) > 0 {
			t.Errorf("Fill(%s): %s", s, told(d, e))
		}
	}
	noFill(t, one("((a (x ...)) ...)"), m, api.ErrForms)
	noFill(t, one("((a (... x y)) ...)"), m, api.ErrForms)
	noFill(t, one("((a . ...) ...)"), m, api.ErrForms)
	noFill(t, one("((e a) ...)"), m, api.ErrMatch)
}

// P17.3, R2: of errors the first found counts: from the left, an item ahead of what stands in it, and those that come with Lists ahead of all in T.
func TestFillFirstError(t *testing.T) {
	m := bound("a 1 (1 2) b 1 (3) v 0 7 f 2 ((1) (2 3)) g 2 ((4) (5))")
	for _, of := range []struct {
		template string
		want     api.Errno
	}{
		{"((a b) ... (v ...))", api.ErrMatch},
		{"((v ...) (a b) ...)", api.ErrForms},
		{"(a (a b) ...)", api.ErrForms},
		{"((a b) ... a)", api.ErrMatch},
		{"((a b) ... . a)", api.ErrMatch},
		{"(... x (a b) ...)", api.ErrForms},
		{"((a b ...) ...)", api.ErrMatch},
		{"((a (v ...) b) ...)", api.ErrMatch},
		{"((f g) ... ... a)", api.ErrMatch},
		{"(((f g) ... a ...) ...)", api.ErrForms},
		{"((a ... (f g) ...) ...)", api.ErrForms},
		{"#((a b) ... ...)", api.ErrMatch},
		{"#(... (a b) ...)", api.ErrForms},
		{"((x (a b) ...) . ...)", api.ErrMatch},
	} {
		noFill(t, one(of.template), m, of.want)
		noFill(t, list(sym("x"), one(of.template)), m, of.want)
		noFill(t, vector(one(of.template), sym("a")), m, of.want)
	}
}

// brokenMatches are such that no Fill takes, each for another reason.
func brokenMatches() []api.Match {
	good := bound("x 0 1 x 1 (2 3) x 2 ((4) ())")
	out := []api.Match{
		{Name: "x", Depth: -1}, {Name: "x", Depth: minInt}, {Name: "x", Depth: -1, Value: one("1")}, {Name: "x", Depth: -1, List: []api.Match{{Name: "x", Depth: -2}}}, {Name: "x"}, {},
		{Name: "x", Value: one("1"), List: good[:1]}, {Name: "x", Value: one("1"), List: []api.Match{{Name: "x", Depth: -1}}},
		{Name: "x", Depth: 1, List: good[1:2]}, {Name: "x", Depth: 1, List: good[:2]}, {Name: "x", Depth: 1, List: good[2:]}, {Name: "x", Depth: 2, List: good[:1]}, {Name: "x", Depth: 2, List: []api.Match{good[1], good[0]}}, {Name: "x", Depth: 3, List: good[1:2]},
		{Name: "x", Depth: 1, List: []api.Match{{Name: "x"}}}, {Name: "x", Depth: 2, List: []api.Match{good[1], {Name: "x", Depth: 1, List: []api.Match{good[0], {}}}}}, {Name: "x", Depth: maxInt, List: good[:1]}, {Name: "x", Depth: minInt + 1, List: []api.Match{{Depth: minInt}}},
	}
	circle := []api.Match{{Name: "x", Depth: 1}}
	circle[0].List = circle
	return append(out, circle[0])
}

// P17.3: ErrForm of a Value that is not sound, of a Depth below 0, and of a List with another depth, wherever they stand and whether or not they are asked for.
func TestFillBrokenMatches(t *testing.T) {
	broken := brokenMatches()
	for _, bad := range unsound() {
		broken = append(broken, api.Match{Name: "x", Value: bad}, listed("x", one("1"), bad), matched("x", 2, list(list(), list(one("1")))))
		broken[len(broken)-1].List[1].List[0].Value = bad
	}
	good := bound("v 0 1 w 1 (2 3)")
	for _, bad := range broken {
		for _, template := range read("x v (x ...) () (... v v) (w ... ...) (v ...) ((w x) ...)") {
			noFill(t, template, []api.Match{bad}, api.ErrForm)
			for at := range 3 {
				noFill(t, template, slices.Insert(slices.Clone(good), at, bad), api.ErrForm)
			}
			noFill(t, template, []api.Match{{Name: "x", Value: one("1")}, bad}, api.ErrForm)
		}
	}
}

// P17.3: ErrForm of a template that is not sound.
func TestFillUnsoundTemplates(t *testing.T) {
	for _, bad := range unsound() {
		for _, m := range [][]api.Match{nil, bound("a 0 1"), bound("a 1 (1)"), {{}}} {
			noFill(t, bad, m, api.ErrForm)
			noFill(t, list(sym("a"), sym("..."), bad), m, api.ErrForm)
			noFill(t, vector(sym("..."), bad), m, api.ErrForm)
		}
	}
}

// P17.3: a Value at a greater depth is nothing, and neither are the names in a List nor names and texts of any bytes.
func TestFillLooseMatches(t *testing.T) {
	m := []api.Match{{Name: "a", Depth: 1, Value: api.Datum{Kind: 99}, List: []api.Match{{Name: "b", Value: one("1")}, {Value: one("2")}, {Name: "\xff", Value: one("3")}}}, {Name: "\xff", Value: one("4")}, {Name: "b", Value: one("5")}, {Name: "huge", Depth: maxInt}}
	fills(t, one("(a ... b)"), m, one("(1 2 3 5)"))
	fills(t, one("(huge ... ... ... b)"), m, one("(5)"))
	noFill(t, one("huge"), m, api.ErrForms)
	noFill(t, sym("\xff"), m, api.ErrForm)
}
