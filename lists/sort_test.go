package lists

import (
	"math/rand/v2"
	"slices"
	"testing"

	"sextant/api"
)

// P11.3: Sort of none, of one, of what is in order, the other way round, and the same.
func TestSort(t *testing.T) {
	for text, want := range map[string]string{
		"()":                                   "()",
		"(1)":                                  "(1)",
		"(())":                                 "(())",
		"(1 2 3)":                              "(1 2 3)",
		"(3 2 1)":                              "(1 2 3)",
		"(2 3 1)":                              "(1 2 3)",
		"(2 2 2)":                              "(2 2 2)",
		"(2 1 2 1)":                            "(1 1 2 2)",
		"(10 9 1/2 -1 1/3)":                    "(-1 1/3 1/2 9 10)",
		"(1+1i 1 1-1i 2)":                      "(1-i 1 1+i 2)",
		"(b a \"b\" \"a\" #\\b #\\a)":          "(#\\a #\\b \"a\" \"b\" a b)",
		"(#t #f #t)":                           "(#f #t #t)",
		"(b ab a abc)":                         "(a ab abc b)",
		"((2) (1 2) (1) (1 . 0))":              "((1) (1 . 0) (1 2) (2))",
		"(#(1 1) #(2) #())":                    "(#() #(2) #(1 1))",
		"(#vu8(2) #vu8(1 9) #vu8())":           "(#vu8() #vu8(1 9) #vu8(2))",
		"(#() (1) #vu8() a \"\" #\\a 1 #f ())": "(() #f 1 #\\a \"\" a #vu8() (1) #())",
		"(1 . 2)":                              "ErrType",
		"(2 1 . 3)":                            "ErrType",
		"((1) . 2)":                            "ErrType",
		"#(2 1)":                               "ErrType",
		"a":                                    "ErrType",
	} {
		is(t, "Sort("+text+")", told(Sort(read(text))), want)
	}
}

// P11.3: SortBy goes by the firsts alone, and pairs of one first stay in their order.
func TestSortBy(t *testing.T) {
	for text, want := range map[string]string{
		"()":                                "()",
		"((1 . a))":                         "((1 . a))",
		"((1 . b) (2 . a))":                 "((1 . b) (2 . a))",
		"((2 . a) (1 . b))":                 "((1 . b) (2 . a))",
		"((1 . c) (1 . b) (1 . a))":         "((1 . c) (1 . b) (1 . a))",
		"((2 . 9) (1 . 9) (2 . 1) (1 . 1))": "((1 . 9) (1 . 1) (2 . 9) (2 . 1))",
		"((3) (1 2) (2 1 0) (1))":           "((1 2) (1) (2 1 0) (3))",
		"((() . 1) (#f . 2) (() . 0))":      "((() . 1) (() . 0) (#f . 2))",
		"(((2) . a) ((1 2) . b) ((1) . c))": "(((1) . c) ((1 2) . b) ((2) . a))",
		"((1 . 2) . 3)":                     "ErrType",
		"((1 . 2) (3 . 4) . a)":             "ErrType",
		"#((1 . 2))":                        "ErrType",
		"(1 . 2)":                           "ErrType",
		"a":                                 "ErrType",
	} {
		is(t, "SortBy("+text+")", told(SortBy(read(text))), want)
	}
}

// P11.3: SortBy with an item that is no pair, first, in the middle, last, and alone.
func TestSortByOfNoPairs(t *testing.T) {
	for _, none := range append(all("() a #t 1 #\\a \"a\" #vu8(1) #() #(a 1)"), void(), other("a")) {
		a, b := read("(2 . a)"), read("(1 . b)")
		for _, items := range [][]api.Datum{{none}, {none, a, b}, {a, none, b}, {a, b, none}, {none, none}, {b, a, none, none}} {
			is(t, "SortBy("+told(list(items...), api.OK)+")", told(SortBy(list(items...))), "ErrType")
		}
	}
}

// P11.3: data of each kind, put in any order, are put back in theirs.
func TestSortEachKind(t *testing.T) {
	random := rand.New(rand.NewPCG(11, 3))
	data := someData()
	for range 100 {
		mixed := slices.Clone(data)
		random.Shuffle(len(mixed), func(i, j int) { mixed[i], mixed[j] = mixed[j], mixed[i] })
		got, e := Sort(list(mixed...))
		isDatum(t, "Sort", got, e, list(data...))
		var pairs, want []api.Datum
		for i, d := range mixed {
			pairs = append(pairs, pair(d, whole(-i)), pair(d, whole(i)))
		}
		for _, d := range data {
			i := slices.IndexFunc(mixed, func(m api.Datum) bool { return same(m, d) })
			want = append(want, pair(d, whole(-i)), pair(d, whole(i)))
		}
		got, e = SortBy(list(pairs...))
		isDatum(t, "SortBy", got, e, list(want...))
	}
}

// numbered are so many pairs, whose firsts are told by a rule and whose seconds tell their places.
func numbered(n int, rule func(i int) int) []api.Datum {
	var out []api.Datum
	for i := range n {
		out = append(out, pair(whole(rule(i)), whole(-i)))
	}
	return out
}

// P11.3: lists of many sizes, of few firsts and of many, rising, falling and mixed: each against a row of what is least and first of all that is left.
func TestSortByStays(t *testing.T) {
	for what, rule := range map[string]func(i int) int{
		"the same": func(i int) int { return 7 },
		"rising":   func(i int) int { return i },
		"falling":  func(i int) int { return -i },
		"in twos":  func(i int) int { return i % 2 },
		"in fives": func(i int) int { return i * 3 % 5 },
		"mixed":    func(i int) int { return i * 37 % 101 },
		"in steps": func(i int) int { return -(i / 10) },
	} {
		for _, size := range []int{2, 3, 10, 19, 20, 21, 40, 41, 100, 300} {
			pairs := numbered(size, rule)
			var want []api.Datum
			for least := -size; least <= max(size, 101); least++ {
				for i, p := range pairs {
					if rule(i) == least {
						want = append(want, p)
					}
				}
			}
			got, e := SortBy(list(pairs...))
			isDatum(t, "SortBy of firsts that are "+what, got, e, list(want...))
		}
	}
}

// P11.3: as many items as a list can have.
func TestSortMany(t *testing.T) {
	items := repeated(sym("b"), 9999)
	for i := range items {
		items[i] = sym([]string{"c", "a", "b"}[i%3])
	}
	want := slices.Concat(repeated(sym("a"), 3333), repeated(sym("b"), 3333), repeated(sym("c"), 3333))
	got, e := Sort(list(items...))
	isDatum(t, "Sort of many", got, e, list(want...))
	pairs := numbered(4999, func(i int) int { return -i / 2 })
	sorted := slices.Clone(pairs)
	slices.Reverse(sorted)
	for i := 1; i+1 < len(sorted); i += 2 { // two of one first each, but for the least, which is alone
		sorted[i], sorted[i+1] = sorted[i+1], sorted[i]
	}
	got, e = SortBy(list(pairs...))
	isDatum(t, "SortBy of many", got, e, list(sorted...))
}
