package imports

import (
	"strconv"
	"testing"

	"sextant/api"
)

// P18.5: a name with a version and without one; exports, and renamed ones; import sets; forms, or none.
func TestLibrary(t *testing.T) {
	for text, want := range map[string]api.Library{
		"(library (a) (export) (import))":                                                                          {Name: words("a")},
		"[library [a] [export] [import]]":                                                                          {Name: words("a")},
		"(library (a b c) (export) (import))":                                                                      {Name: words("a b c")},
		"(library (a ()) (export) (import))":                                                                       {Name: words("a")},
		"(library (a (1)) (export) (import))":                                                                      {Name: words("a"), Version: []int{1}},
		"(library (a b (0 2147483647 3)) (export) (import))":                                                       {Name: words("a b"), Version: []int{0, mostOf, 3}},
		"(library (a a (1 1)) (export) (import))":                                                                  {Name: words("a a"), Version: []int{1, 1}},
		"(library (only a) (export) (import))":                                                                     {Name: words("only a")},
		"(library (library (2)) (export) (import))":                                                                {Name: words("library"), Version: []int{2}},
		"(library (for) (export) (import))":                                                                        {Name: words("for")},
		"(library (rnrs (6)) (export) (import))":                                                                   {Name: words("rnrs"), Version: []int{6}},
		"(library (a) (export x) (import))":                                                                        {Name: words("a"), Exports: bound("x")},
		"(library (a) (export y x z) (import))":                                                                    {Name: words("a"), Exports: bound("y x z")},
		"(library (a) (export (rename)) (import))":                                                                 {Name: words("a")},
		"(library (a) (export (rename (x y))) (import))":                                                           {Name: words("a"), Exports: bound("y=x")},
		"(library (a) (export (rename (x y) (y x))) (import))":                                                     {Name: words("a"), Exports: bound("y=x x=y")},
		"(library (a) (export x (rename (y z)) w (rename (v u) (x t)) (rename)) (import))":                         {Name: words("a"), Exports: bound("x z=y w u=v t=x")},
		"(library (a) (export x (rename (x y) (x z))) (import))":                                                   {Name: words("a"), Exports: bound("x y=x z=x")},
		"(library (a) (export rename export (rename (rename import))) (import))":                                   {Name: words("a"), Exports: bound("rename export import=rename")},
		"(library (a) (export) (import (b)))":                                                                      {Name: words("a"), Imports: []api.Import{library("b", "()")}},
		"(library (a) (export) (import (b) (rnrs (6)) (only (b (1)) x) (a)))":                                      {Name: words("a"), Imports: []api.Import{library("b", "()"), library("rnrs", "(6)"), only(library("b", "(1)"), "x"), library("a", "()")}},
		"(library (a) (export) (import (for (prefix (library (only)) p) run) (rename (except (b) x) (y x))))":      {Name: words("a"), Imports: []api.Import{prefix(library("only", "()"), "p"), rename(except(library("b", "()"), "x"), "y x")}},
		"(library (a) (export) (import) 1)":                                                                        {Name: words("a"), Body: read("1")},
		"(library (a) (export) (import) (define x 1) x \"s\" #(1 (a)) () (export) (import 1) #vu8(1) #\\a #t 1/2)": {Name: words("a"), Body: read("(define x 1) x \"s\" #(1 (a)) () (export) (import 1) #vu8(1) #\\a #t 1/2")},
		"(library (a) (export x) (import (b)) 1 2)":                                                                {Name: words("a"), Exports: bound("x"), Imports: []api.Import{library("b", "()")}, Body: read("1 2")},
		"(library (a) (export) (import) (x . y) . (z))":                                                            {Name: words("a"), Body: read("(x . y) z")},
	} {
		makes(t, one(text), want)
	}
	odd := list(sym("library"), list(sym("")), list(sym("export"), sym(""), sym("\x00")), one("(import)"), api.Datum{Kind: api.Void}, api.Datum{Kind: api.Other, Text: "f"})
	makes(t, odd, api.Library{Name: []string{""}, Exports: []api.Binding{{}, {Name: "\x00", Of: "\x00"}}, Body: []api.Datum{{Kind: api.Void}, {Kind: api.Other, Text: "f"}}})
}

// P18.5: what is not of the form.
func TestLibraryForms(t *testing.T) {
	for _, d := range read("() library 5 #(library (a) (export) (import)) (library) (library (a)) (library (a) (export)) (library (a) (import)) (library (export) (import)) (library (a) (import) (export)) (lib (a) (export) (import)) (LIBRARY (a) (export) (import)) ((library) (a) (export) (import)) (\"library\" (a) (export) (import)) ((a) (export) (import)) (library (a) (export) (export) (import)) (library (a) () (export) (import))") {
		noLibrary(t, d, api.ErrForms)
	}
	for _, d := range read("(library . a) (library (a) . b) (library (a) (export) . b) (library (a) (export) (import) . b) (library (a) (export) (import) 1 . 2) (library (a) (export) import) (library (a) export (import)) (library (a) () (import)) (library (a) (export) ()) (library (a) #(export) (import)) (library (a) (export) #(import)) (library (a) (exports) (import)) (library (a) (export) (imports)) (library (a) (\"export\") (import)) (library (a) (export) (\"import\")) (library (a) ((export)) (import)) (library (a) (export) ((import)))") {
		noLibrary(t, d, api.ErrForms)
	}
	a, export, imports := one("(a)"), one("(export)"), one("(import)")
	for _, name := range read("a 5 () \"a\" #(a) ((1)) (()) ((a)) (1) (1 a) (a 1) (a (1) b) (a (1) (1)) (a () ()) (a (x)) (a (1 x)) (a (-1)) (a (2147483648)) (a (4294967297)) (a (18446744073709551617)) (a (1/2)) (a (+i)) (a (1 . 2)) (a . b) (a (1) . b) (\"a\") (a \"b\") (a #t) (a #(1)) (a #vu8(1)) (a (\"1\")) (a ((1))) (a (1 ())) (a (>= 1)) (a ((>= 1))) (a (and)) (a (or (1)))") {
		noLibrary(t, form(name, export, imports), api.ErrForms)
	}
	for _, item := range read("1 \"x\" #\\x #t () (x) (x y) #(x) #(rename (x y)) (rename x) (rename x y) (rename (x)) (rename (x y z)) (rename ()) (rename (x 1)) (rename (1 x)) (rename ((x) y)) (rename (x y) z) (rename z (x y)) (rename (x y) ()) (rename (x . y)) (rename (x y . z)) (rename . x) (rename (x y) . z) (rename #(x y)) (renamed (x y)) (prefix x) (\"rename\" (x y)) ((rename (x y)))") {
		noLibrary(t, form(a, list(sym("export"), item), imports), api.ErrForms)
		noLibrary(t, form(a, list(sym("export"), sym("x"), item, sym("y")), imports), api.ErrForms)
	}
	for _, item := range read("a 1 () ((1)) (a 1) (a (x)) (a (-1)) (only) (only (a) 1) (prefix (a)) (rename (a) (x)) (for) (library a) (a . b) #(a) \"a\" (only (only) x)") {
		noLibrary(t, form(a, export, list(sym("import"), item)), api.ErrForms)
		noLibrary(t, form(a, export, list(sym("import"), one("(b)"), item, one("(c)"))), api.ErrForms)
	}
	for _, clause := range read("(export . x) (export x . y) (import . a) (import (a) . b)") {
		noLibrary(t, form(a, clause, imports), api.ErrForms)
		noLibrary(t, form(a, export, clause), api.ErrForms)
	}
	void, other := api.Datum{Kind: api.Void}, api.Datum{Kind: api.Other, Text: "export"}
	noLibrary(t, form(list(sym("a"), void), export, imports), api.ErrForms)
	noLibrary(t, form(a, list(sym("export"), other), imports), api.ErrForms)
	noLibrary(t, form(a, list(other), imports), api.ErrForms)
}

// form is a library's, with that behind the word.
func form(parts ...api.Datum) api.Datum { return list(append(read("library"), parts...)...) }

// P18.5: a Name of the exports that stands twice, whatever it means; but what is not of the form comes first.
func TestLibraryTwice(t *testing.T) {
	for _, exports := range []string{"x x", "x y x", "y x x", "x (rename (y x))", "(rename (y x)) x", "(rename (x y) (z y))", "(rename (x y)) (rename (x y))", "(rename (x y) (x y))", "(rename (x x)) x", "z (rename (x y)) w (rename (v z))"} {
		noLibrary(t, one("(library (a) (export "+exports+") (import (b)) 1)"), api.ErrTwice)
		noLibrary(t, one("(library (a) (export "+exports+" 1) (import (b)) 1)"), api.ErrForms)
		noLibrary(t, one("(library (a) (export "+exports+") (import (only)) 1)"), api.ErrForms)
		noLibrary(t, one("(library (a 1) (export "+exports+") (import) 1)"), api.ErrForms)
		noLibrary(t, one("(library (a) (export "+exports+") (import) . 1)"), api.ErrForms)
		noLibrary(t, one("(library (a) (export "+exports+"))"), api.ErrForms)
		noLibrary(t, form(one("(a)"), one("(export "+exports+")"), one("(import)"), api.Datum{}), api.ErrForm)
	}
	makes(t, one("(library (a) (export x (rename (x y) (y z))) (import))"), api.Library{Name: words("a"), Exports: bound("x y=x z=y")})
}

// A datum that is not sound is ErrForm, at whatever place, even behind what is not of the form.
func TestLibraryUnsound(t *testing.T) {
	a, export, imports := one("(a)"), one("(export)"), one("(import)")
	for _, bad := range unsound() {
		for _, d := range []api.Datum{
			bad, list(bad), form(bad), form(bad, export, imports), form(a, bad, imports), form(a, export, bad), form(a, export, imports, bad), form(a, export, imports, list(sym("x"), bad)),
			form(list(sym("a"), bad), export, imports), form(list(sym("a"), list(bad)), export, imports), form(a, list(sym("export"), bad), imports), form(a, export, list(sym("import"), bad)), list(sym("lib"), bad), form(sym("a"), export, imports, bad),
		} {
			noLibrary(t, d, api.ErrForm)
		}
	}
}

// P18.5: as large as data may be.
func TestLibraryLarge(t *testing.T) {
	const most = (mostNodes - 15) / 2 // beside the names, forms and ends of an empty library each item takes two nodes
	var exports []api.Datum
	var want []api.Binding
	for i := range most {
		name := "x" + strconv.Itoa(i)
		exports, want = append(exports, sym(name)), append(want, api.Binding{Name: name, Of: name})
	}
	with := func(exports, body []api.Datum) api.Datum {
		return form(append([]api.Datum{one("(a)"), list(append(read("export"), exports...)...), one("(import)")}, body...)...)
	}
	makes(t, with(exports, nil), api.Library{Name: words("a"), Exports: want})
	makes(t, with(nil, exports), api.Library{Name: words("a"), Body: exports})
	noLibrary(t, with(exports, read("1")), api.ErrForm)
	exports[most-1] = exports[0]
	noLibrary(t, with(exports, nil), api.ErrTwice)
	noLibrary(t, with(exports, read("1")), api.ErrForm)
	exports[most-1] = one("1")
	noLibrary(t, with(exports, nil), api.ErrForms)
	makes(t, with(nil, []api.Datum{nested(sym("x"), deepest-2)}), api.Library{Name: words("a"), Body: []api.Datum{nested(sym("x"), deepest-2)}})
	noLibrary(t, with(nil, []api.Datum{nested(sym("x"), deepest-1)}), api.ErrForm)
	deep := one("(b)")
	for range deepest - 4 { // the import form, the set inside and its symbol are levels, too
		deep = list(sym("only"), deep, sym("x"))
	}
	makes(t, form(one("(a)"), one("(export)"), list(sym("import"), deep)), api.Library{Name: words("a"), Imports: []api.Import{around(1, library("b", "()"), "x", deepest-4)}})
	noLibrary(t, form(one("(a)"), one("(export)"), list(sym("import"), list(sym("only"), deep))), api.ErrForm)
}
