package imports

import (
	"math/rand"
	"slices"
	"strconv"
	"strings"
	"testing"

	"sextant/api"
)

// set is what Read makes of a text.
func set(s string) api.Import {
	i, e := Read(one(s))
	if e != api.OK {
		panic(s)
	}
	return i
}

func TestNamesExample(t *testing.T) {
	noNames(t, set("(prefix (only (a b (1 (>= 2))) x y) p:)"), bound("x z"), api.ErrBound)
	names(t, set("(prefix (only (a b (1 (>= 2))) x y) p:)"), bound("x z y=f"), bound("p:x=x p:y=f"))
}

// P18.3: each kind, and in which order.
func TestNames(t *testing.T) {
	exports := bound("x=f y z=g w")
	for text, want := range map[string]string{
		"(a)":                                           "x=f y z=g w",
		"(library (a (1)))":                             "x=f y z=g w",
		"(for (a) run)":                                 "x=f y z=g w",
		"(only (a))":                                    "",
		"(only (a) y)":                                  "y",
		"(only (a) w x)":                                "w x=f",
		"(only (a) z y x w)":                            "z=g y x=f w",
		"(except (a))":                                  "x=f y z=g w",
		"(except (a) y)":                                "x=f z=g w",
		"(except (a) w x)":                              "y z=g",
		"(except (a) y y x y)":                          "z=g w",
		"(except (a) w z y x)":                          "",
		"(prefix (a) p:)":                               "p:x=f p:y=y p:z=g p:w=w",
		"(prefix (a) x)":                                "xx=f xy=y xz=g xw=w",
		"(rename (a))":                                  "x=f y z=g w",
		"(rename (a) (y q))":                            "x=f q=y z=g w",
		"(rename (a) (x y) (y x))":                      "y=f x=y z=g w",
		"(rename (a) (x y) (y z) (z x))":                "y=f z=y x=g w",
		"(rename (a) (w a) (x b))":                      "b=f y z=g a=w",
		"(rename (a) (x x) (y y))":                      "x=f y z=g w",
		"(rename (a) (x y) (y q))":                      "y=f q=y z=g w",
		"(rename (a) (y q) (x y))":                      "y=f q=y z=g w",
		"(only (rename (a) (x y) (y x)) x)":             "x=y",
		"(rename (only (a) z x) (x p) (z q))":           "q=g p=f",
		"(prefix (prefix (a) p) q)":                     "qpx=f qpy=y qpz=g qpw=w",
		"(only (prefix (a) p) pz px)":                   "pz=g px=f",
		"(prefix (only (a) z x) p)":                     "pz=g px=f",
		"(except (rename (a) (x v)) v)":                 "y z=g w",
		"(except (only (a) z y x) y)":                   "z=g x=f",
		"(only (except (a) x) w y)":                     "w y",
		"(rename (prefix (a) p) (px py) (py x))":        "py=f x=y pz=g pw=w",
		"(rename (except (a) x) (y x))":                 "x=y z=g w",
		"(rename (rename (a) (x y) (y x)) (x y) (y x))": "x=f y z=g w",
		"(rename (rename (a) (x v)) (v u))":             "u=f y z=g w",
	} {
		names(t, set(text), exports, bound(want))
	}
	strange := []api.Binding{{Name: "", Of: "\xff"}, {Name: "\xff", Of: ""}, {Name: "x y", Of: ""}}
	a := library("a", "()")
	names(t, a, strange, strange)
	names(t, api.Import{Kind: 3, Of: []api.Import{a}, Names: []string{""}}, strange, strange)
	names(t, api.Import{Kind: 3, Of: []api.Import{a}, Names: []string{"\xff"}}, strange, []api.Binding{{Name: "\xff", Of: "\xff"}, {Name: "\xff\xff", Of: ""}, {Name: "\xffx y", Of: ""}})
	names(t, api.Import{Kind: 4, Of: []api.Import{a}, Names: []string{"\xff", "", "", "\xff"}}, strange, []api.Binding{{Name: "\xff", Of: "\xff"}, {Name: "", Of: ""}, {Name: "x y", Of: ""}})
	names(t, api.Import{Kind: 1, Of: []api.Import{a}, Names: []string{"x y", ""}}, strange, []api.Binding{{Name: "x y", Of: ""}, {Name: "", Of: "\xff"}})
	names(t, a, nil, nil)
	names(t, prefix(except(rename(only(a, ""), ""), ""), "p"), nil, nil)
	names(t, a, bound("x=f y=f z=f"), bound("x=f y=f z=f"))
}

// P18.3: of pairs with one first name the first one counts, and a second name is none of the first ones.
func TestNamesOfPairs(t *testing.T) {
	names(t, set("(rename (a) (x p) (x q))"), bound("x y"), bound("p=x y"))
	names(t, set("(rename (a) (x p) (y r) (x q) (x p))"), bound("x y"), bound("p=x r=y"))
	noNames(t, set("(rename (a) (x p) (p q))"), bound("x y"), api.ErrBound)
	noNames(t, set("(rename (a) (p q) (x p))"), bound("x y"), api.ErrBound)
}

// P18.3: names that are not there.
func TestNamesBound(t *testing.T) {
	for _, text := range []string{
		"(only (a) q)", "(only (a) x q)", "(only (a) q x)", "(only (a) f)", "(only (a) X)", "(only (a) xx)", "(only (a) px)",
		"(except (a) q)", "(except (a) x q)", "(except (a) q x)", "(except (a) f)",
		"(rename (a) (q x))", "(rename (a) (q q))", "(rename (a) (x v) (q u))", "(rename (a) (q u) (x v))", "(rename (a) (f x))", "(rename (a) (x v) (v u))",
		"(only (prefix (a) p) x)", "(except (prefix (a) p) x)", "(rename (prefix (a) p) (x v))", "(only (except (a) x) x)", "(except (except (a) x) x)", "(rename (only (a) y) (x v))",
		"(only (rename (a) (x v)) x)", "(except (rename (a) (x v)) x)", "(rename (rename (a) (x v)) (x u))", "(only (only (a)) x)",
		"(prefix (only (a) q) p)", "(only (only (a) q))", "(except (except (a) q))", "(rename (rename (a) (q v)))",
	} {
		noNames(t, set(text), bound("x=f y"), api.ErrBound)
	}
	for _, text := range words("(only_(a)_x) (except_(a)_x) (rename_(a)_(x_y))") {
		noNames(t, set(strings.ReplaceAll(text, "_", " ")), nil, api.ErrBound)
	}
}

// P18.3: names that stand twice, in the exports or in an outcome, whether they mean the same or not.
func TestNamesTwice(t *testing.T) {
	for _, text := range []string{
		"(only (a) x x)", "(only (a) x y x)", "(only (a) y x x)", "(rename (a) (x y))", "(rename (a) (y x))", "(rename (a) (x v) (y v))", "(rename (a) (x z) (y w) (z w))",
		"(rename (a) (x y) (y x) (z x))", "(rename (rename (a) (x v)) (v y))", "(rename (prefix (a) p) (px py))", "(rename (only (a) x y) (x y))",
		"(prefix (rename (a) (x y)) p)", "(only (rename (a) (x y)) z)", "(only (rename (a) (x y)))", "(except (rename (a) (x y)) y)", "(except (only (a) x x) x)", "(rename (only (a) x x) (x v))", "(only (only (a) x x) x)",
	} {
		noNames(t, set(text), bound("x=f y=f z"), api.ErrTwice)
	}
	for _, exports := range []string{"x x", "x=f x=g", "x y x", "y x=f x=f", "x=f y=g z=f y=h"} {
		for _, text := range []string{"(a)", "(only (a))", "(only (a) x)", "(except (a) x)", "(only (a) w)", "(except (a) w)", "(except (a) x y)", "(prefix (a) p)", "(rename (a))", "(rename (a) (x y))", "(rename (a) (w x))", "(only (except (a) x) y)"} {
			noNames(t, set(text), bound(exports), api.ErrTwice)
		}
	}
	names(t, set("(rename (only (a) x) (x y))"), bound("x=f y=f z"), bound("y=f"))
	names(t, set("(rename (except (a) y) (x y))"), bound("x=f y=f z"), bound("y=f z"))
}

// P18.3: sets that are not as Read makes them.
func TestNamesForms(t *testing.T) {
	for _, bad := range faultySets() {
		noNames(t, bad, bound("x y z"), api.ErrForms)
		noNames(t, bad, nil, api.ErrForms)
		for _, around := range []api.Import{only(bad, ""), only(bad, "x"), except(bad, ""), prefix(bad, "p"), rename(bad, ""), rename(bad, "x v"), prefix(only(bad, "q"), "p"), outer(7, bad, "")} {
			noNames(t, around, bound("x y z"), api.ErrForms)
		}
	}
}

// P18.3: what the chapter does not list is no fault: a name or a reference of whatever kind, which Names has no need of.
func TestNamesUnasked(t *testing.T) {
	for _, inner := range []api.Import{{}, {Name: words("a")}, {Name: words("a"), Ref: one("x")}, {Ref: sym("\xff")}, {Name: words("rnrs"), Ref: empty(), Names: words("x")}} {
		names(t, inner, bound("x=f y"), bound("x=f y"))
		names(t, prefix(inner, "p"), bound("x=f y"), bound("px=f py=y"))
	}
	names(t, api.Import{Kind: 1, Name: words("a"), Ref: one("x"), Of: []api.Import{{}}, Names: words("y")}, bound("x y"), bound("y"))
}

// P18.3: of errors the one of the set that stands further inside counts, whichever it is; within one set that a name is not there.
func TestNamesErrors(t *testing.T) {
	a, exports := library("a", "()"), bound("x y z")
	missing, twice, odd := only(a, "x q"), rename(a, "x y"), rename(a, "x")
	for _, c := range []struct {
		inside api.Import
		want   api.Errno
	}{{missing, api.ErrBound}, {except(a, "q"), api.ErrBound}, {rename(a, "q x"), api.ErrBound}, {twice, api.ErrTwice}, {only(a, "x x"), api.ErrTwice}, {odd, api.ErrForms}, {prefix(a, ""), api.ErrForms}, {outer(5, a, "x"), api.ErrForms}, {api.Import{Kind: 2}, api.ErrForms}} {
		for _, around := range []api.Import{
			only(c.inside, ""), only(c.inside, "q"), only(c.inside, "z z"), except(c.inside, "q"), except(c.inside, "x y z"), prefix(c.inside, "p"), rename(c.inside, ""), rename(c.inside, "q r"), rename(c.inside, "x z y z"),
			prefix(c.inside, ""), prefix(c.inside, "p q"), rename(c.inside, "q"), rename(c.inside, "x y z"), outer(5, c.inside, ""), outer(-1, c.inside, "q"),
			prefix(only(only(c.inside, "q"), "x x"), ""), outer(5, outer(6, c.inside, ""), ""),
		} {
			noNames(t, around, exports, c.want)
		}
	}
	noNames(t, only(a, "x x q"), exports, api.ErrBound)
	noNames(t, only(a, "q x x"), exports, api.ErrBound)
	noNames(t, rename(a, "x y q z"), exports, api.ErrBound)
	noNames(t, rename(a, "q z x y"), exports, api.ErrBound)
	noNames(t, rename(a, "q"), exports, api.ErrForms)
	noNames(t, rename(a, "x y q"), exports, api.ErrForms)
	for _, around := range []api.Import{prefix(a, ""), rename(a, "x"), outer(9, a, ""), outer(-1, only(a, "q"), "")} {
		noNames(t, around, bound("x y x"), api.ErrTwice)
	}
	noNames(t, only(api.Import{Kind: 0, Of: []api.Import{missing}}, "q"), exports, api.ErrForms)
}

// P18.3: sets stand in one another however deep; such as go round in a circle are none.
func TestNamesDeep(t *testing.T) {
	a, exports := library("a", "()"), bound("x=f y")
	names(t, around(3, a, "p", 1000), exports, []api.Binding{{Name: strings.Repeat("p", 1000) + "x", Of: "f"}, {Name: strings.Repeat("p", 1000) + "y", Of: "y"}})
	names(t, around(4, a, "x y y x", 60000), exports, exports)
	names(t, around(4, a, "x y y x", 60001), exports, bound("y=f x=y"))
	names(t, around(1, a, "y x", 65536), exports, bound("y x=f"))
	noNames(t, around(2, only(a, "q"), "", 60000), exports, api.ErrBound)
	noNames(t, only(around(2, a, "", 60000), "q"), exports, api.ErrBound)
	for kind := range 7 {
		circle := []api.Import{{Kind: kind, Names: words("p")}}
		circle[0].Of = circle
		noNames(t, circle[0], exports, api.ErrForms)
		two := []api.Import{{Kind: kind, Names: words("x y")}, {Kind: 1}}
		two[0].Of, two[1].Of = two[1:], two[:1]
		noNames(t, two[0], exports, api.ErrForms)
		noNames(t, only(two[1], "x"), exports, api.ErrForms)
	}
}

// P18.3: of many bindings all are told, in order.
func TestNamesMany(t *testing.T) {
	r := rand.New(rand.NewSource(18))
	var exports, want, rest []api.Binding
	var chosen, pairs []string
	for i := range 20000 {
		name := "n" + strconv.Itoa(i)
		exports = append(exports, api.Binding{Name: name, Of: "o" + strconv.Itoa(i%7)})
		pairs = append(pairs, name, "n"+strconv.Itoa((i+1)%20000))
		if i%3 == 0 {
			chosen, want = append(chosen, name), append(want, exports[i])
		} else {
			rest = append(rest, exports[i])
		}
	}
	a := library("a", "()")
	names(t, a, exports, exports)
	names(t, api.Import{Kind: 1, Of: []api.Import{a}, Names: chosen}, exports, want)
	names(t, api.Import{Kind: 2, Of: []api.Import{a}, Names: chosen}, exports, rest)
	shuffled := slices.Clone(exports)
	r.Shuffle(len(shuffled), func(i, j int) { shuffled[i], shuffled[j] = shuffled[j], shuffled[i] })
	names(t, api.Import{Kind: 1, Of: []api.Import{a}, Names: chosen}, shuffled, want)
	turned := slices.Clone(exports)
	for i := range turned {
		turned[i].Name = "n" + strconv.Itoa((i+1)%20000)
	}
	names(t, api.Import{Kind: 4, Of: []api.Import{a}, Names: pairs}, exports, turned)
	noNames(t, a, append(slices.Clone(exports), exports[10000]), api.ErrTwice)
}
