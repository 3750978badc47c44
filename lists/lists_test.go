package lists

import (
	"math"
	"slices"
	"strconv"
	"strings"
	"testing"

	"sextant/api"
)

// The chapter's examples.
func TestExamples(t *testing.T) {
	is(t, "Append((1), (2), 3)", told(Append(all("(1) (2) 3")...)), "(1 2 . 3)")
	is(t, "Append()", told(Append()), "()")
	is(t, "Append(5)", told(Append(read("5"))), "5")
	is(t, "Append(1, (2))", told(Append(all("1 (2)")...)), "ErrType")
	is(t, "Tail((1 2), 2)", told(Tail(read("(1 2)"), 2)), "()")
	is(t, "Member(2, (1 2 3))", told(Member(read("2"), read("(1 2 3)"))), "(2 3)")
	is(t, "Assoc(b, ((a 1) (b 2)))", told(Assoc(read("b"), read("((a 1) (b 2))"))), "(b 2)")
	is(t, "SortBy(((2 . a) (1 . b) (2 . c)))", told(SortBy(read("((2 . a) (1 . b) (2 . c))"))), "((1 . b) (2 . a) (2 . c))")
}

// P11.1: Of none, of one, and of several; what is a list or a Nil itself is one item.
func TestOf(t *testing.T) {
	for text, want := range map[string]string{
		"":                       "()",
		"1":                      "(1)",
		"()":                     "(())",
		"() () ()":               "(() () ())",
		"a () b":                 "(a () b)",
		"1 2 3":                  "(1 2 3)",
		"3 1 2 1":                "(3 1 2 1)",
		"(1 2) (3 . 4) #(5) (6)": "((1 2) (3 . 4) #(5) (6))",
		"1 (2)":                  "(1 (2))",
		"\"a\" #\\a #vu8(1) 1/2": "(\"a\" #\\a #vu8(1) 1/2)",
	} {
		is(t, "Of("+text+")", told(Of(all(text)), api.OK), want)
	}
	is(t, "Of(nil)", told(Of(nil), api.OK), "()")
	is(t, "Of(none)", told(Of([]api.Datum{}), api.OK), "()")
	isDatum(t, "Of each kind", Of(someData()), api.OK, list(someData()...))
	for _, d := range someData() {
		isDatum(t, "Of one", Of([]api.Datum{d}), api.OK, pair(d, empty()))
	}
}

// P11.1: the items, in their order, of lists alone.
func TestItems(t *testing.T) {
	for text, want := range map[string]string{
		"()":              "",
		"(1)":             "1",
		"(())":            "()",
		"(1 2 3)":         "1 2 3",
		"(3 1 3 2)":       "3 1 3 2",
		"((1 2) (3 . 4))": "(1 2) (3 . 4)",
		"(a . (b . (c)))": "a b c",
		"('a #(1 2) ())":  "'a #(1 2) ()",
		"(a . b)":         "ErrType",
		"(a b c . d)":     "ErrType",
		"(a . #())":       "ErrType",
		"#(1 2)":          "ErrType",
		"a":               "ErrType",
		"\"\"":            "ErrType",
		"#vu8()":          "ErrType",
		"#f":              "ErrType",
	} {
		is(t, "Items("+text+")", toldItems(Items(read(text))), want)
	}
	items, e := Items(list(someData()...))
	if e != api.OK || !slices.EqualFunc(items, someData(), same) {
		t.Errorf("Items of each kind: %s", toldItems(items, e))
	}
}

// P11.1: of no lists, of one, and of several with Nil among them; the last may be any datum.
func TestAppend(t *testing.T) {
	for text, want := range map[string]string{
		"":                          "()",
		"()":                        "()",
		"(1)":                       "(1)",
		"(1 . 2)":                   "(1 . 2)",
		"a":                         "a",
		"() ()":                     "()",
		"() () () ()":               "()",
		"() a":                      "a",
		"() () a":                   "a",
		"() (1 . 2)":                "(1 . 2)",
		"(1) ()":                    "(1)",
		"() (1)":                    "(1)",
		"(1) (2)":                   "(1 2)",
		"(1 2) (3 4)":               "(1 2 3 4)",
		"(1 2) () (3) () () (4 5)":  "(1 2 3 4 5)",
		"() (1) () (2) ()":          "(1 2)",
		"(1) (2) (3) 4":             "(1 2 3 . 4)",
		"(1) (2 . 3)":               "(1 2 . 3)",
		"(1) #(2)":                  "(1 . #(2))",
		"(1) \"a\"":                 "(1 . \"a\")",
		"((1) ()) ((2))":            "((1) () (2))",
		"(a) (a) (a)":               "(a a a)",
		"(1 2 3 4 5) (6) (7 8 9) x": "(1 2 3 4 5 6 7 8 9 . x)",
	} {
		is(t, "Append("+text+")", told(Append(all(text)...)), want)
	}
	for _, d := range someData() {
		got, e := Append(d)
		isDatum(t, "Append of one", got, e, d)
		got, e = Append(empty(), d)
		isDatum(t, "Append of () and one", got, e, d)
		got, e = Append(list(someData()...), d)
		isDatum(t, "Append of each kind", got, e, dotted(d, someData()...))
	}
}

// P11.1: what is no list anywhere but at the end.
func TestAppendOfNoLists(t *testing.T) {
	for _, none := range []string{"1", "a", "(1 . 2)", "(1 2 . 3)", "#()", "\"\"", "(() . a)"} {
		for _, text := range []string{"N ()", "N (1)", "N 1", "() N ()", "(1) N (2)", "(1) N 2", "(1) (2) N ()", "(1) (2) N (3)", "N (1) (2) (3)", "N N N", "() () N a"} {
			text = strings.ReplaceAll(text, "N", none)
			is(t, "Append("+text+")", told(Append(all(text)...)), "ErrType")
		}
		is(t, "Append(() "+none+")", told(Append(empty(), read(none))), none)
	}
}

// P11.1: Reverse.
func TestReverse(t *testing.T) {
	for text, want := range map[string]string{
		"()":                    "()",
		"(1)":                   "(1)",
		"(1 2)":                 "(2 1)",
		"(1 2 3)":               "(3 2 1)",
		"(a a b)":               "(b a a)",
		"((1 2) (3 . 4) ())":    "(() (3 . 4) (1 2))",
		"(() a)":                "(a ())",
		"((a b) #(a b) \"ab\")": "(\"ab\" #(a b) (a b))",
		"(1 . 2)":               "ErrType",
		"(1 2 . 3)":             "ErrType",
		"#(1 2)":                "ErrType",
		"a":                     "ErrType",
	} {
		is(t, "Reverse("+text+")", told(Reverse(read(text))), want)
	}
	turned := someData()
	slices.Reverse(turned)
	got, e := Reverse(list(someData()...))
	isDatum(t, "Reverse of each kind", got, e, list(turned...))
	got, e = Reverse(got)
	isDatum(t, "Reverse of Reverse", got, e, list(someData()...))
}

// P11.1: Tail at each place there is, on both sides of those, and far beyond.
func TestTail(t *testing.T) {
	for size := range 6 {
		items := all("a (b) () #(d) \"e\"")[:size]
		for n := range size + 1 {
			got, e := Tail(list(items...), n)
			isDatum(t, "Tail at "+strconv.Itoa(n), got, e, list(items[n:]...))
		}
		for _, n := range []int{-1, -2, size + 1, size + 2, 2*size + 1, mostNodes, mostNodes + 1, 1 << 31, 1 << 32, 1<<32 + size, math.MaxInt, math.MinInt, math.MinInt + size, -size - 1} {
			is(t, "Tail of "+strconv.Itoa(size)+" at "+strconv.Itoa(n), told(Tail(list(items...), n)), "ErrArg")
		}
	}
	for _, text := range []string{"a", "(1 . 2)", "(1 2 . 3)", "#(1 2)"} {
		for _, n := range []int{0, 1, 2, -1, 5, math.MaxInt, math.MinInt} {
			is(t, "Tail of "+text+" at "+strconv.Itoa(n), told(Tail(read(text), n)), "ErrType")
		}
	}
}

// P11.1: what Append has put together, Tail takes apart; Of and Items go there and back.
func TestThereAndBack(t *testing.T) {
	for size := range 40 {
		ahead, behind := someData()[:size%29], someData()[size%17:]
		got, e := Append(Of(ahead), Of(behind))
		isDatum(t, "Append", got, e, list(slices.Concat(ahead, behind)...))
		got, e = Tail(got, len(ahead))
		isDatum(t, "Tail of Append", got, e, list(behind...))
		items, e := Items(got)
		isDatum(t, "Of Items", Of(items), e, got)
	}
}
