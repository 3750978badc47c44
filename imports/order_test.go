package imports

import (
	"slices"
	"strconv"
	"testing"

	"sextant/api"
)

// libs are libraries, each told by its name and what it imports.
func libs(texts ...string) []api.Library {
	var out []api.Library
	for _, text := range texts {
		parts := read(text)
		l, e := Library(form(parts[0], one("(export)"), list(append(read("import"), parts[1:]...)...)))
		if e != api.OK {
			panic(text)
		}
		out = append(out, l)
	}
	return out
}

// sets are what Read makes of data.
func sets(s string) []api.Import {
	var out []api.Import
	for _, d := range read(s) {
		i, e := Read(d)
		if e != api.OK {
			panic(s)
		}
		out = append(out, i)
	}
	return out
}

// P18.6: each library behind those that it imports, in the order in which imports are looked through.
func TestOrder(t *testing.T) {
	chain := libs("(a) (b)", "(b) (c)", "(c) (d)", "(d)")
	orders(t, chain, nil)
	orders(t, nil, nil)
	orders(t, chain, sets("(a)"), 3, 2, 1, 0)
	orders(t, chain, sets("(c)"), 3, 2)
	orders(t, chain, sets("(d)"), 3)
	orders(t, chain, sets("(d) (a)"), 3, 2, 1, 0)
	orders(t, chain, sets("(c) (b) (c) (c)"), 3, 2, 1)
	turned := libs("(d)", "(c) (d)", "(b) (c)", "(a) (b)")
	orders(t, turned, sets("(a)"), 0, 1, 2, 3)
	orders(t, turned, sets("(b)"), 0, 1, 2)
	diamond := libs("(a) (b) (c)", "(b) (d)", "(c) (d)", "(d)")
	orders(t, diamond, sets("(a)"), 3, 1, 2, 0)
	orders(t, diamond, sets("(c) (a)"), 3, 2, 1, 0)
	orders(t, diamond, sets("(b) (c)"), 3, 1, 2)
	orders(t, libs("(a) (c) (b)", "(b) (d)", "(c) (d)", "(d)"), sets("(a)"), 3, 2, 1, 0)
	free := libs("(a)", "(b)", "(c)", "(a b)", "(b a)", "(a b c)")
	orders(t, free, sets("(c) (a) (b)"), 2, 0, 1)
	orders(t, free, sets("(b a) (a b) (a) (a b c)"), 4, 3, 0, 5)
	orders(t, libs("(a) (b) (b) (b (1)) (b)", "(b (1))"), sets("(a) (a)"), 1, 0)
	wide := libs("(a) (b) (c) (d) (e)", "(b) (e)", "(c)", "(d) (c) (b)", "(e) (f)", "(f)")
	orders(t, wide, sets("(a)"), 5, 4, 1, 2, 3, 0)
	orders(t, wide, sets("(d) (f) (a)"), 2, 5, 4, 1, 3, 0)
}

// P18.6: an import is its library whatever sets stand around that, be their names there or not.
func TestOrderSets(t *testing.T) {
	some := libs("(a) (only (for (library (b)) run) q) (rename (c) (q q))", "(b)", "(c) (prefix (except (library (only)) x) y)", "(only)")
	orders(t, some, sets("(a)"), 1, 3, 2, 0)
	orders(t, some, sets("(prefix (rename (only (b) x x) (x y)) p) (library (only))"), 1, 3)
	orders(t, some, sets("(except (library (only))) (for (for (c) x))"), 3, 2)
}

// P18.6: an import's library is the first one with that name whose version fits.
func TestOrderVersions(t *testing.T) {
	some := libs("(a (1))", "(a (2))", "(a (2 1))", "(a)", "(b (2))", "(a b (2))", "(a (3)) (a (1)) (a (2 1))", "(c) (a (4))", "(a (4)) (a ((>= 2)))")
	for text, want := range map[string][]int{
		"(a)": {0}, "(a ())": {0}, "(a (1))": {0}, "(a (2))": {1}, "(a (2 1))": {2}, "(a (not ((and))))": {3}, "(a ((>= 2)))": {1}, "(a (3))": {0, 2, 6}, "(a ((>= 3)))": {0, 2, 6}, "(a (not (1)))": {1}, "(a (2 (<= 5)))": {2},
		"(a (or (3) (2 1)))": {2}, "(a (and ((>= 2)) (not (2))))": {0, 2, 6}, "(b (2))": {4}, "(b)": {4}, "(a b)": {5}, "(a b (2))": {5}, "(c)": {1, 8, 7}, "(a (4)) ": {1, 8},
	} {
		orders(t, some, sets(text), want...)
	}
	for _, text := range []string{"(a (5))", "(a (1 1))", "(a (or))", "(a (0))", "(b (1))", "(b (not ()))", "(a b (1))", "(a (2 1 0))", "(c (0))"} {
		noOrder(t, some, sets(text), api.ErrNone)
		noOrder(t, some, sets("(a) "+text), api.ErrNone)
	}
	orders(t, some, sets("(a (2 1)) (a (2)) (a (1)) (a)"), 2, 1, 0)
}

// P18.6: the name (rnrs) is none of libs, with whatever reference, and even if one of libs has it.
func TestOrderBase(t *testing.T) {
	some := libs("(rnrs (6)) (a)", "(a) (rnrs) (rnrs (7)) (rnrs (6))", "(rnrs base) (rnrs)", "(rnrs (7)) (rnrs (7))", "(base) (rnrs base)")
	for _, text := range []string{"(rnrs)", "(rnrs (6))", "(rnrs (or))", "(rnrs (not ()))", "(for (rnrs (6 1)) run)", "(only (rnrs) car)", "(prefix (rename (rnrs) (x y)) p)", "(rnrs) (rnrs (1)) (except (rnrs) x)"} {
		orders(t, some, sets(text))
		orders(t, nil, sets(text))
		orders(t, some, sets(text+" (a) "+text), 1)
	}
	orders(t, some, sets("(rnrs base)"), 2)
	orders(t, some, sets("(base)"), 2, 4)
	noOrder(t, nil, sets("(rnrs base)"), api.ErrNone)
	noOrder(t, some, sets("(rnrs base (1))"), api.ErrNone)
	noOrder(t, some, sets("(RNRS)"), api.ErrNone)
	noOrder(t, some, sets("(rnrs rnrs)"), api.ErrNone)
	for _, ref := range append(unsound(), faultyReferences()...) {
		orders(t, some, []api.Import{{Name: words("rnrs"), Ref: ref}})
	}
}

// P18.6: no library of that name, or none that an import on the way needs.
func TestOrderNone(t *testing.T) {
	some := libs("(a)", "(a b)", "(c) (d)", "(e) (c)", "(f (1))", "(g) (f (2))", "(h) (a) (rnrs) (i)")
	for _, text := range []string{"(d)", "(b)", "(a b c)", "(a a)", "(A)", "(b a)", "(c)", "(e)", "(f (2))", "(g)", "(h)", "(only (d) x)", "(a) (d)", "(d) (a)", "(library (only))"} {
		noOrder(t, some, sets(text), api.ErrNone)
		noOrder(t, nil, sets(text), api.ErrNone)
	}
	noOrder(t, nil, sets("(a)"), api.ErrNone)
	noOrder(t, some, []api.Import{{Name: []string{"a "}, Ref: empty()}}, api.ErrNone)
	noOrder(t, some, []api.Import{{Name: []string{"ab"}, Ref: empty()}}, api.ErrNone)
	noOrder(t, some, []api.Import{{Name: []string{"", "a"}, Ref: empty()}}, api.ErrNone)
}

// P18.6: a library that needs itself, at once or by others; none if that is not needed.
func TestOrderCycle(t *testing.T) {
	some := libs("(a) (a)", "(b) (c)", "(c) (d)", "(d) (b)", "(e) (f) (c)", "(f)", "(g (1)) (g (2))", "(g (2)) (f)", "(h (1)) (h (2))", "(h (2)) (h)", "(i) (rnrs) (only (j) x)", "(j) (f) (prefix (i) p)")
	for _, text := range []string{"(a)", "(b)", "(c)", "(d)", "(e)", "(h)", "(h (2))", "(i)", "(j)", "(f) (g) (a)", "(for (a) run)", "(except (j))"} {
		noOrder(t, some, sets(text), api.ErrCycle)
	}
	orders(t, some, sets("(f)"), 5)
	orders(t, some, sets("(g)"), 5, 7, 6)
	orders(t, some, sets("(g (2)) (f) (g)"), 5, 7, 6)
}

// P18.6: imports that are not as Read makes them, handed in or needed on the way.
func TestOrderForms(t *testing.T) {
	some := libs("(a)", "(b) (a)", "(c) (b) (a)")
	for _, bad := range faultySets() {
		for _, around := range []api.Import{bad, only(bad, "x"), except(bad, ""), prefix(bad, "p"), rename(bad, "x y"), outer(8, bad, "")} {
			noOrder(t, some, []api.Import{around}, api.ErrForms)
			noOrder(t, some, append(sets("(c)"), around), api.ErrForms)
			noOrder(t, some, append([]api.Import{around}, sets("(c)")...), api.ErrForms)
			noOrder(t, nil, []api.Import{around}, api.ErrForms)
			some[1].Imports = append(sets("(a)"), around)
			noOrder(t, some, sets("(c)"), api.ErrForms)
			orders(t, some, sets("(a)"), 0)
			some[1].Imports = sets("(a)")
		}
	}
	for _, bad := range []api.Import{prefix(library("rnrs", "()"), ""), rename(library("rnrs", "(6)"), "x"), outer(5, library("rnrs", "()"), ""), {Kind: 0, Name: words("rnrs"), Ref: empty(), Of: sets("(a)")}, {Kind: 2, Name: words("rnrs"), Ref: empty()}} {
		noOrder(t, some, []api.Import{bad}, api.ErrForms)
	}
	for kind := range 6 {
		circle := []api.Import{{Kind: kind, Name: words("a"), Names: words("p")}}
		circle[0].Of = circle
		noOrder(t, some, circle, api.ErrForms)
	}
	orders(t, some, []api.Import{around(4, library("c", "()"), "x y", 60000)}, 0, 1, 2)
	noOrder(t, some, []api.Import{around(1, prefix(library("c", "()"), ""), "", 60000)}, api.ErrForms)
}

// P18.6: a reference that is none is at fault where it is held against a library's version, be that one or not.
func TestOrderReferences(t *testing.T) {
	some := libs("(a (1))", "(b) (a (2))", "(c)")
	for _, v := range append(faultyVersions(), []int{1}, nil) {
		some[0].Version = v
		for _, bad := range unsound() {
			noOrder(t, some, []api.Import{{Name: words("a"), Ref: bad}}, api.ErrForm)
			noOrder(t, some, []api.Import{only(api.Import{Name: words("a"), Ref: list(bad)}, "x")}, api.ErrForm)
		}
		for _, bad := range faultyReferences() {
			noOrder(t, some, []api.Import{{Name: words("a"), Ref: bad}}, api.ErrForms)
		}
		orders(t, some, sets("(c)"), 2)
	}
}

// P18.6: a version with a number that no version has fits no reference, not even one that fits all versions, so that its library is passed by.
func TestOrderStrangeVersions(t *testing.T) {
	for _, v := range faultyVersions() {
		some := libs("(a)", "(a (1))", "(b) (a)", "(c)", "(d) (c) (b)")
		some[0].Version = v
		for _, text := range []string{"(a)", "(a ())", "(a (and))", "(a (not (or)))", "(a (not (2)))", "(a (not ((and) (and) (and) (and))))", "(a (1))", "(a ((<= 1)))", "(a ((or 1 2)))", "(only (prefix (a) p) px)"} {
			orders(t, some, sets(text), 1)
			orders(t, some, sets("(c) "+text), 3, 1)
			noOrder(t, append(some[:1:1], some[2:]...), sets(text), api.ErrNone)
			noOrder(t, some[:1], sets(text), api.ErrNone)
		}
		for _, text := range []string{"(a (or))", "(a (2))", "(a (not ()))", "(a ((not (and))))"} {
			noOrder(t, some, sets(text), api.ErrNone)
			noOrder(t, some[:1], sets(text), api.ErrNone)
		}
		orders(t, some, sets("(b)"), 1, 2)
		orders(t, some, sets("(d) (a)"), 3, 1, 2, 4)
		orders(t, []api.Library{some[1], some[0]}, sets("(a)"), 0)
		orders(t, some, sets("(rnrs) (c)"), 3)
		alone := append(some[:1:1], some[2:]...)
		noOrder(t, alone, sets("(b)"), api.ErrNone)
		noOrder(t, alone, sets("(d)"), api.ErrNone)
		orders(t, alone, sets("(c)"), 2)
		for _, own := range [][]api.Import{sets("(a)"), sets("(nowhere)"), faultySets()[:1]} { // those of a library that is passed by are not looked at
			some[0].Imports = own
			orders(t, some, sets("(d)"), 3, 1, 2, 4)
		}
		noOrder(t, append(some, some[0]), sets("(a)"), api.ErrTwice)
	}
}

// P18.6: however many are passed by, of the same name or of another one.
func TestOrderManyStrangeVersions(t *testing.T) {
	var some []api.Library
	for _, v := range faultyVersions() {
		some = append(some, api.Library{Name: words("a"), Version: v}, api.Library{Name: words("a b"), Version: v})
	}
	noOrder(t, some, sets("(a)"), api.ErrNone)
	noOrder(t, some, sets("(a b)"), api.ErrNone)
	last := len(some)
	some = append(some, libs("(a (2147483647))", "(a b (0)) (a)", "(a)")...)
	orders(t, some, sets("(a)"), last)
	orders(t, some, sets("(a b)"), last, last+1)
	orders(t, some, sets("(a (not (2147483647))) (a b (not (1)))"), last+2, last, last+1)
}

// P18.6: what Names asks of a set is not asked here, and fields that a kind does not name are not looked at.
func TestOrderUnasked(t *testing.T) {
	some := libs("(a)", "(b)")
	orders(t, some, []api.Import{only(library("a", "()"), "q q"), rename(library("b", "()"), "x y z y")}, 0, 1)
	orders(t, some, []api.Import{{Kind: 1, Name: words("b"), Ref: one("(x)"), Of: sets("(a)")}, {Name: words("b"), Ref: empty(), Names: words("x")}}, 0, 1)
	strange := api.Library{Name: words("c"), Imports: sets("(b)"), Exports: bound("x x"), Body: []api.Datum{{}, sym("\xff")}}
	orders(t, append(some, strange), sets("(c)"), 1, 2)
}

// numbered are so many libraries, each importing the next one.
func numbered(count int) []api.Library {
	var texts []string
	for i := range count {
		text := "(l" + strconv.Itoa(i) + ")"
		if i+1 < count {
			text += " (l" + strconv.Itoa(i+1) + ")"
		}
		texts = append(texts, text)
	}
	return libs(texts...)
}

// P18.6: as many as MaxLibs libraries, and more, be they needed or not.
func TestOrderLarge(t *testing.T) {
	var want []int
	for i := range mostLibs {
		want = append(want, mostLibs-1-i)
	}
	full := numbered(mostLibs)
	orders(t, full, sets("(l0)"), want...)
	orders(t, full, nil)
	orders(t, full, sets("(l63) (l63) (rnrs)"), 63)
	for _, count := range []int{mostLibs + 1, mostLibs + 2, 1000} {
		for _, text := range []string{"", "(l0)", "(l1)", "(rnrs)", "(l64)", "(nowhere)"} {
			noOrder(t, numbered(count), sets(text), api.ErrLarge)
		}
		noOrder(t, numbered(count), faultySets(), api.ErrLarge)
	}
	full[63].Imports = sets("(l0)")
	noOrder(t, full, sets("(l5)"), api.ErrCycle)
}

// P18.6: two libraries with one name and one version, ahead of all else.
func TestOrderTwice(t *testing.T) {
	for _, some := range [][]api.Library{
		libs("(a)", "(a)"), libs("(a)", "(a ())"), libs("(a (1))", "(b)", "(a (1))"), libs("(b)", "(a b (1 2))", "(c)", "(a b (1 2))"), libs("(rnrs)", "(rnrs)"), libs("(a) (b)", "(b) (a)", "(c) (x)", "(c) (y)"),
		{{}, {}}, {{Version: []int{-1}}, {Version: []int{-1}}}, append(numbered(mostLibs), libs("(l63)")...), append(numbered(1000), libs("(l500)")...), append(numbered(mostLibs-1), libs("(l0)")...),
	} {
		for _, text := range []string{"", "(a)", "(b)", "(nowhere)", "(rnrs)"} {
			noOrder(t, some, sets(text), api.ErrTwice)
		}
		noOrder(t, some, faultySets(), api.ErrTwice)
	}
	orders(t, libs("(a)", "(a (0))", "(a (0 0))", "(a (1))", "(b)", "(a b)", "(b a)", "(a b (1))", "(ab)", "(a b (1 2))", "(a b (2 1))", "(a b (12))"), sets("(a b (12))"), 11)
	apart := []api.Library{{Name: words("a b")}, {Name: []string{"a b"}}, {Name: []string{"a", "", "b"}}, {Name: []string{"", "a", "b"}}, {Name: []string{"ab", ""}}, {Name: []string{"", "ab"}}, {}, {Name: []string{""}}, {Name: []string{"", ""}}}
	for at := range apart {
		noOrder(t, append(slices.Clone(apart), apart[at]), nil, api.ErrTwice)
		if at != 6 { // whose name an import has as well, but no list that is read
			orders(t, apart, []api.Import{{Name: apart[at].Name, Ref: empty()}}, at)
		}
	}
}

// P18.6: of errors the first that is met on the way.
func TestOrderErrors(t *testing.T) {
	some := libs("(a) (x)", "(b) (b)", "(c) (d) (a)", "(d) (b)", "(e) (f) (x) (e)", "(f)", "(g) (f) (g) (x)", "(h)", "(i) (h) (f) (a)")
	some[7].Imports = []api.Import{prefix(library("f", "()"), "")}
	for text, want := range map[string]api.Errno{
		"(a) (b)": api.ErrNone, "(b) (a)": api.ErrCycle, "(c)": api.ErrCycle, "(c) (x)": api.ErrCycle, "(x) (c)": api.ErrNone, "(e)": api.ErrNone, "(g)": api.ErrCycle, "(h) (a)": api.ErrForms, "(f) (a) (h)": api.ErrNone, "(i)": api.ErrForms, "(f) (b) (h)": api.ErrCycle,
	} {
		noOrder(t, some, sets(text), want)
	}
	bad := rename(library("x", "()"), "x")
	noOrder(t, some, []api.Import{bad, library("b", "()")}, api.ErrForms)
	noOrder(t, some, []api.Import{library("b", "()"), bad}, api.ErrCycle)
	noOrder(t, some, []api.Import{library("f", "()"), bad, library("x", "()")}, api.ErrForms)
	noOrder(t, some, []api.Import{library("f", "()"), library("x", "()"), bad}, api.ErrNone)
	noOrder(t, some, []api.Import{library("f", "(x)"), bad}, api.ErrForms)
	noOrder(t, some, []api.Import{{Name: words("f")}, bad}, api.ErrForm)
}
