package imports

import (
	"testing"

	"sextant/api"
)

func TestReadExample(t *testing.T) {
	reads(t, one("(prefix (only (a b (1 (>= 2))) x y) p:)"), prefix(only(library("a b", "(1 (>= 2))"), "x y"), "p:"))
	noRead(t, one("(only)"), api.ErrForms)
	noRead(t, one("(a 1)"), api.ErrForms)
}

// P18.1: a library's name, with a reference, with an empty one and without one.
func TestReadNames(t *testing.T) {
	for text, want := range map[string]api.Import{
		"(a)":                                    library("a", "()"),
		"[a]":                                    library("a", "()"),
		"(a b c)":                                library("a b c", "()"),
		"(a a a)":                                library("a a a", "()"),
		"(a ())":                                 library("a", "()"),
		"(a b ())":                               library("a b", "()"),
		"(rnrs (6))":                             library("rnrs", "(6)"),
		"(a b (0 2147483647))":                   library("a b", "(0 2147483647)"),
		"(a ((>= 1) (<= 2) (and) (or) (not 3)))": library("a", "((>= 1) (<= 2) (and) (or) (not 3))"),
		"(a (and))":                              library("a", "(and)"),
		"(a (or))":                               library("a", "(or)"),
		"(a (and (1) (or (2 3) ())))":            library("a", "(and (1) (or (2 3) ()))"),
		"(a (not (not (1))))":                    library("a", "(not (not (1)))"),
		"(and (and))":                            library("and", "(and)"),
		"(not)":                                  library("not", "()"),
		"(ONLY a)":                               library("ONLY a", "()"),
		"(only: a)":                              library("only: a", "()"),
		"(exce a)":                               library("exce a", "()"),
		"(a only except prefix)":                 library("a only except prefix", "()"),
		"(a rename for library ())":              library("a rename for library", "()"),
		"(import)":                               library("import", "()"),
		"(... _ -> \\x20; é)":                    {Name: []string{"...", "_", "->", " ", "é"}, Ref: empty()},
		"(\\x0; (0))":                            {Name: []string{"\x00"}, Ref: one("(0)")},
		"(library (a))":                          library("a", "()"),
		"(library (a b (1)))":                    library("a b", "(1)"),
		"(library (a (and (1) (2))))":            library("a", "(and (1) (2))"),
	} {
		reads(t, one(text), want)
	}
	reads(t, list(sym("")), api.Import{Name: []string{""}, Ref: empty()})
	reads(t, list(sym(""), sym("only"), list()), api.Import{Name: []string{"", "only"}, Ref: empty()})
}

// P18.1: each kind of set, with no names, with one and with several.
func TestReadSets(t *testing.T) {
	a, b := library("a", "()"), library("b c", "((>= 1))")
	for text, want := range map[string]api.Import{
		"(only (a))":                    only(a, ""),
		"(only (a) x)":                  only(a, "x"),
		"(only (b c ((>= 1))) x y x)":   only(b, "x y x"),
		"(except (a))":                  except(a, ""),
		"(except (a) x)":                except(a, "x"),
		"(except (b c ((>= 1))) y x x)": except(b, "y x x"),
		"(prefix (a) p)":                prefix(a, "p"),
		"(prefix (b c ((>= 1))) only)":  prefix(b, "only"),
		"(rename (a))":                  rename(a, ""),
		"(rename (a) (x y))":            rename(a, "x y"),
		"(rename (b c ((>= 1))) (x y) (y x) (x z) (z z))": rename(b, "x y y x x z z z"),
		"(for (a))":     a,
		"(for (a) run)": a,
		"(for (b c ((>= 1))) run expand (meta 1) 5 \"s\" #(x) () #\\a)": b,
		"(library (a))":                            a,
		"(library (b c ((>= 1))))":                 b,
		"(only (a) only except prefix)":            only(a, "only except prefix"),
		"(except (a) for library rename)":          except(a, "for library rename"),
		"(rename (a) (only for) (library rename))": rename(a, "only for library rename"),
	} {
		reads(t, one(text), want)
	}
	reads(t, list(sym("prefix"), one("(a)"), sym("")), api.Import{Kind: 3, Of: []api.Import{a}, Names: []string{""}})
	reads(t, list(sym("for"), one("(a)"), api.Datum{Kind: api.Void}, api.Datum{Kind: api.Other, Text: "procedure"}), a)
}

// P18.1: a name that begins with a word of a set can be told behind library alone.
func TestReadNamesOfWords(t *testing.T) {
	for _, word := range words("only except prefix rename for library") {
		reads(t, one("(library ("+word+"))"), library(word, "()"))
		reads(t, one("(library ("+word+" a b))"), library(word+" a b", "()"))
		reads(t, one("(library ("+word+" (1)))"), library(word, "(1)"))
		reads(t, one("(only (for (library ("+word+" x (or))) run) y)"), only(library(word+" x", "(or)"), "y"))
		noRead(t, one("(library ("+word+" (a)))"), api.ErrForms)
		noRead(t, one("(library ("+word+" (a) x))"), api.ErrForms)
	}
}

// P18.1: sets stand in one another, as deep as the datum goes.
func TestReadNested(t *testing.T) {
	a := library("a", "(1)")
	reads(t, one("(only (except (prefix (rename (a (1)) (x y)) p) q) r)"), only(except(prefix(rename(a, "x y"), "p"), "q"), "r"))
	reads(t, one("(rename (prefix (except (only (a (1)) x y z) x) p) (py w))"), rename(prefix(except(only(a, "x y z"), "x"), "p"), "py w"))
	reads(t, one("(for (for (for (library (a (1))) x) (only)) (a 1))"), a)
	reads(t, one("(only (for (only (for (only (for (a (1)) run)))) expand) x)"), only(only(only(a, ""), ""), "x"))
	for _, kind := range []struct {
		number      int
		word, names string
	}{{1, "only", "x"}, {2, "except", "x y"}, {3, "prefix", "p"}, {4, "rename", "x y"}} {
		behind := kind.names
		if kind.number == 4 {
			behind = "(x y)"
		}
		d := one("(a)")
		for range deepest - 2 { // the set inside is one level, and its symbol another one
			d = list(append([]api.Datum{sym(kind.word), d}, read(behind)...)...)
		}
		reads(t, d, around(kind.number, library("a", "()"), kind.names, deepest-2))
		noRead(t, list(append([]api.Datum{sym(kind.word), d}, read(behind)...)...), api.ErrForm)
		reads(t, list(sym("for"), d.List[1].List[0], vector()), around(kind.number, library("a", "()"), kind.names, deepest-3))
	}
}

// P18.1: a list that begins with a word of a set is that set, whatever stands behind it.
func TestReadWords(t *testing.T) {
	for _, word := range words("only except prefix rename for library") {
		for _, behind := range []string{"", " . a", " a", " 1", " a b", " a b c", " (1)", " ()", " (a) . x", " #((a))", " \"a\"", " (1) x", " (a 1)", " a (1)", " ((a))", " ((a)) x", " (((a)))", " a (x y)", " (1 a) (x y)", " a ()", " a b ()"} {
			noRead(t, one("("+word+behind+")"), api.ErrForms)
		}
		if word != "library" { // behind which a name stands, not a set
			for _, inner := range words("only except prefix rename for library") {
				noRead(t, one("("+word+" ("+inner+"))"), api.ErrForms)
				noRead(t, one("("+word+" ("+inner+" a) x)"), api.ErrForms)
				noRead(t, one("("+word+" ("+inner+" (1)) x)"), api.ErrForms)
			}
		}
	}
}

// P18.1: what is not of the form.
func TestReadForms(t *testing.T) {
	for _, d := range read("() a only 5 \"a\" #\\a #t #f #(a) #(only (a)) #vu8(1) ((1)) (()) ((a)) (((a))) (1) (1 a) (a 1) (a 1 b) (a \"b\") (a #t) (a #(1)) (a #vu8(1)) (\"a\") (a . b) (a . 1) (a (1) . b) (a b . (c . d))") {
		noRead(t, d, api.ErrForms)
	}
	for _, d := range read("(a (1) b) (a (1) (1)) (a () b) (a () ()) ((1) a) (a b (1) c) (a (x)) (a (1 x)) (a (-1)) (a (2147483648)) (a (1/2)) (a (>= 1)) (a (<= 1)) (a (not)) (a (not (1) (2))) (a (and 1)) (a (or 1)) (a (not 1)) (a (1 . 2)) (a (and . 1)) (a ((1)))") {
		noRead(t, d, api.ErrForms)
	}
	for _, d := range read("(only (a) 1) (only (a) x 1) (only (a) 1 x) (only (a) (x)) (only (a) x ()) (only (a) x . y) (only (a) . x) (only ((a)) x) (only a x) (only (a 1) x) (only (only) x) (except (a) 1) (except (a) (x)) (except (a) x . y) (except (a (x)) x) (except (a) \"x\")") {
		noRead(t, d, api.ErrForms)
	}
	for _, d := range read("(prefix (a)) (prefix (a) p q) (prefix (a) 1) (prefix (a) (p)) (prefix (a) \"p\") (prefix (a) p . q) (prefix p (a)) (prefix (a) . p) (prefix (prefix (a)) p)") {
		noRead(t, d, api.ErrForms)
	}
	for _, d := range read("(rename (a) x) (rename (a) x y) (rename (a) (x)) (rename (a) (x y z)) (rename (a) ()) (rename (a) (x 1)) (rename (a) (1 x)) (rename (a) ((x) y)) (rename (a) (x . y)) (rename (a) (x y . z)) (rename (a) #(x y)) (rename (a) (x y) z) (rename (a) (x y) (z)) (rename (a) (x) (y)) (rename (a) (x y) . z) (rename (a) (x y) . (z w)) (rename (b 1) (x y))") {
		noRead(t, d, api.ErrForms)
	}
	for _, d := range read("(for) (for (a) . b) (for (a) x . y) (for ()) (for 5 run) (for (for) run) (library) (library a) (library ()) (library (a) b) (library (a) (b)) (library (a) . b) (library (a 1)) (library ((a))) (library ((1))) (library (a (x))) (library (a . b)) (library 5) (library #(a)) (library (library (a)))") {
		noRead(t, d, api.ErrForms)
	}
	noRead(t, api.Datum{Kind: api.Void}, api.ErrForms)
	noRead(t, api.Datum{Kind: api.Other, Text: "a"}, api.ErrForms)
	noRead(t, list(sym("a"), api.Datum{Kind: api.Void}), api.ErrForms)
	noRead(t, list(sym("only"), one("(a)"), api.Datum{Kind: api.Other, Text: "x"}), api.ErrForms)
	noRead(t, list(api.Datum{Kind: api.String, Text: "only"}, one("(a)")), api.ErrForms)
	noRead(t, list(api.Datum{Kind: api.Other, Text: "a"}), api.ErrForms)
}

// A datum that is not sound is ErrForm, at whatever place, even behind what is not of the form.
func TestReadUnsound(t *testing.T) {
	for _, bad := range unsound() {
		noRead(t, bad, api.ErrForm)
		noRead(t, list(bad), api.ErrForm)
		noRead(t, list(sym("a"), bad), api.ErrForm)
		noRead(t, list(sym("a"), list(bad)), api.ErrForm)
		noRead(t, list(sym("for"), one("(a)"), bad), api.ErrForm)
		noRead(t, list(sym("only"), one("(a)"), bad), api.ErrForm)
		noRead(t, list(one("1"), bad), api.ErrForm)
		noRead(t, list(sym("only"), bad), api.ErrForm)
	}
	long := slice("x", mostNodes/2-4)
	for _, word := range words("only except") {
		d := list(append([]api.Datum{sym(word), one("(a)")}, long...)...) // with 2 nodes each, and 5 of ends and of (a)
		if got, e := Read(d); e != api.OK || len(got.Names) != len(long) {
			t.Errorf("Read of %d names: %d, error %d", len(long), len(got.Names), e)
		}
		noRead(t, list(append([]api.Datum{sym(word), one("(a)"), sym("x")}, long...)...), api.ErrForm)
	}
}
