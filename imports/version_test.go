package imports

import (
	"slices"
	"strconv"
	"strings"
	"testing"

	"sextant/api"
)

// versionOf is the version of numbers with a _ between each two; _ alone is the one without any.
func versionOf(s string) []int {
	var out []int
	for _, number := range strings.FieldsFunc(s, func(c rune) bool { return c == '_' }) {
		n, err := strconv.Atoi(number)
		if err != nil {
			panic(s)
		}
		out = append(out, n)
	}
	return out
}

func TestVersionExample(t *testing.T) {
	fits(t, []int{1, 3}, one("(1 (>= 2))"), true)
	fits(t, []int{1}, one("(1 2)"), false)
	fits(t, []int{}, one("()"), true)
}

// P18.2: each kind of reference and of sub-reference: the versions that fit, and such as do not.
func TestVersion(t *testing.T) {
	for _, c := range []struct {
		ref     string
		yes, no []string
	}{
		{"()", words("_ 0 1 2147483647 1_2 0_0_0"), nil},
		{"(1)", words("1 1_0 1_2 1_1_1"), words("_ 0 2 2147483647 0_1 2_1")},
		{"(0)", words("0 0_1"), words("_ 1 1_0")},
		{"(2147483647)", words("2147483647 2147483647_0"), words("_ 0 2147483646")},
		{"(1 2)", words("1_2 1_2_3 1_2_0"), words("_ 1 2 2_1 1_1 2_2 0_1_2")},
		{"(1 2 3)", words("1_2_3 1_2_3_4"), words("_ 1 1_2 1_2_4 3_2_1")},
		{"((>= 2))", words("2 3 2147483647 2_0"), words("_ 0 1 1_2")},
		{"((>= 0))", words("0 1 2147483647"), words("_")},
		{"((>= 2147483647))", words("2147483647"), words("_ 2147483646")},
		{"((<= 2))", words("0 1 2 2_3"), words("_ 3 2147483647 3_2")},
		{"((<= 0))", words("0 0_1"), words("_ 1")},
		{"((<= 2147483647))", words("0 2147483647"), words("_")},
		{"((and))", words("0 1 5_6"), words("_")},
		{"((or))", nil, words("_ 0 1 1_2")},
		{"((and 1))", words("1"), words("_ 0 2")},
		{"((or 1))", words("1"), words("_ 0 2")},
		{"((and 1 2))", nil, words("_ 0 1 2 1_2")},
		{"((or 1 3))", words("1 3 1_0 3_1"), words("_ 0 2 4 2_1")},
		{"((and (>= 2) (<= 4)))", words("2 3 4"), words("_ 1 5")},
		{"((or (<= 2) (>= 4)))", words("0 2 4 5"), words("_ 3")},
		{"((not 1))", words("0 2 0_1"), words("_ 1 1_0")},
		{"((not (>= 2)))", words("0 1"), words("_ 2 3")},
		{"((not (<= 2)))", words("3 4"), words("_ 0 2")},
		{"((not (and)))", nil, words("_ 0 1")},
		{"((not (or)))", words("0 1"), words("_")},
		{"((not (not 1)))", words("1"), words("_ 0 2")},
		{"((and (or 1 2 3) (not 2) (or)))", nil, words("_ 1 2 3")},
		{"((and (or 1 2 3) (not 2) (and)))", words("1 3"), words("_ 0 2 4")},
		{"((or (and (>= 1) (<= 2)) (not (or (<= 5) 7))))", words("1 2 6 8"), words("_ 0 3 5 7")},
		{"(1 (>= 2) (not 0))", words("1_2_1 1_3_2_0"), words("_ 1 1_2 1_1_1 1_2_0 2_2_1")},
		{"((and) (or))", nil, words("_ 0 0_0")},
		{"((and) (and))", words("0_0 1_2_3"), words("_ 0")},
		{"(and)", words("_ 0 1 1_2"), nil},
		{"(or)", nil, words("_ 0 1 1_2")},
		{"(not ())", nil, words("_ 0 1 1_2")},
		{"(not (1))", words("_ 0 2 2_1"), words("1 1_2")},
		{"(not (1 2))", words("_ 1 1_1 2"), words("1_2 1_2_3")},
		{"(not (and))", nil, words("_ 0")},
		{"(not (or))", words("_ 0"), nil},
		{"(not (not (1)))", words("1 1_2"), words("_ 2")},
		{"(not ((and)))", words("_"), words("0 1")},
		{"(not ((or)))", words("_ 0 1"), nil},
		{"(and (1))", words("1 1_2"), words("_ 2")},
		{"(or (1))", words("1 1_2"), words("_ 2")},
		{"(and (2) ((<= 3)))", words("2 2_4"), words("_ 1 3")},
		{"(and () (1) ())", words("1"), words("_ 2")},
		{"(and ((>= 1)) (or (1) (2)) (not (2 3)))", words("1 2 2_4 1_3"), words("_ 0 3 2_3")},
		{"(or (1 2) (2 1) (3))", words("1_2 2_1 3 3_3"), words("_ 1 2 1_1 2_2")},
		{"(or (and (1) (2)) (not ((>= 1))))", words("_ 0 0_1"), words("1 2")},
		{"(or () (1))", words("_ 0 2"), nil},
	} {
		for _, v := range c.yes {
			fits(t, versionOf(v), one(c.ref), true)
		}
		for _, v := range c.no {
			fits(t, versionOf(v), one(c.ref), false)
		}
	}
	fits(t, nil, one("()"), true)
	fits(t, nil, one("(0)"), false)
	fits(t, []int{0, mostOf}, one("(0 2147483647)"), true)
}

// faultyReferences are no version references.
func faultyReferences() []api.Datum {
	out := read("x 1 0 2147483647 \"a\" #t #() #(1) #vu8(1) (x) (x 1) (1 x) (1 2 x) (1 . 2) (1 . x) (>= 1) (<= 1) (>= (1)) (1 and) (or 1) (and 1) (not 1) (not) (not (1) (2)) (not () () ()) (and (1) 2) (and x) (or (x)) (or (1) (x)) (not (x)) (and . 1) (and (1) . 2) (or (1) . (2)) (not . 1) (not (1) . 2) (AND) (and>) (=) (= 1) (> 1)")
	out = append(out, read("(()) ((1)) ((1 2)) (1 ()) ((x)) ((x 1)) ((not)) ((not 1 2)) ((not ())) ((not (1))) ((and ())) ((or (1))) ((and x)) ((or 1 x)) ((not x)) ((>=)) ((<=)) ((>= 1 2)) ((<= 1 2)) ((>= x)) ((<= ())) ((>= (>= 1))) ((>= (and))) ((>= . 1)) ((<= 1 . 2)) ((and . 1)) ((and 1 . 2)) ((or 1 (x))) ((= 1)) ((> 1)) ((< 1)) (((and))) ((\">=\" 1)) (\"and\") (#(and)) (#(1)) (\"1\") (#\\1) (#t)")...)
	for _, number := range words("-1 2147483648 2147483649 4294967296 4294967297 9223372036854775807 9223372036854775808 18446744073709551616 18446744073709551617 -2147483648 1/2 3/2 -1/2 +i 1+i 1-i 1/2+i") {
		for _, ref := range []string{"(_)", "(1 _)", "(_ 1)", "((>= _))", "((<= _))", "((and _))", "((or 1 _))", "((not _))", "(and (_))", "(or (1) (1 _))", "(not (_))", "((not (or (<= _))))"} {
			out = append(out, one(strings.Replace(ref, "_", number, 1)))
		}
	}
	return append(out, api.Datum{Kind: api.Void}, api.Datum{Kind: api.Other, Text: "and"}, list(api.Datum{Kind: api.Other, Text: "and"}), list(api.Datum{Kind: api.String, Text: "or"}), list(sym("")), list(list(sym(""))))
}

func versions() [][]int {
	return [][]int{nil, {0}, {1}, {2}, {1, 2}, {2, 1}, {0, 0, 0}, {mostOf}, {mostOf, mostOf, 1}}
}

func faultyVersions() [][]int {
	return [][]int{{-1}, {minInt}, {mostOf + 1}, {maxInt}, {1 << 32}, {1<<32 + 1}, {1, -1}, {-1, 1}, {0, mostOf + 1}, {mostOf + 1, 0}, {1, 2, minInt}, {-1, -2}}
}

// P18.2: what is no reference, whatever the version, and even where what is right in it tells already.
func TestVersionForms(t *testing.T) {
	for _, ref := range faultyReferences() {
		for _, v := range versions() {
			noVersion(t, v, ref, api.ErrForms)
		}
	}
	for _, bad := range unsound() {
		for _, ref := range []api.Datum{bad, list(bad), list(sym("or"), list(), bad), list(list(sym("or"), one("1"), bad)), list(sym("x"), bad), list(one("-1"), bad)} {
			noVersion(t, nil, ref, api.ErrForm)
			noVersion(t, []int{1, 2}, ref, api.ErrForm)
		}
	}
}

// P18.2: numbers that no version has are refused, wherever they stand, but behind what is at fault in the reference.
func TestVersionNumbers(t *testing.T) {
	for _, v := range faultyVersions() {
		for _, ref := range read("() (1) (1 2) (1 2 3) ((>= 0)) ((<= 2147483647)) (and) (or) (not ()) (not (1)) ((or)) (or () (1)) (0 (and))") {
			noVersion(t, v, ref, api.ErrArg)
		}
		for _, ref := range faultyReferences() {
			noVersion(t, v, ref, api.ErrForms)
		}
		for _, bad := range unsound() {
			noVersion(t, v, bad, api.ErrForm)
			noVersion(t, v, list(one("1"), bad), api.ErrForm)
		}
	}
	fits(t, []int{0, mostOf, 0, mostOf}, one("(0 2147483647 (<= 0) (>= 2147483647))"), true)
}

// P18.2: references stand in one another as deep as data go, and are as long.
func TestVersionLimits(t *testing.T) {
	ref, sub := one("(1)"), one("1")
	for level := range deepest - 2 {
		ref, sub = list(sym("not"), ref), list(sym("not"), sub)
		even := level%2 == 1
		fits(t, []int{1}, ref, even)
		fits(t, []int{2}, ref, !even)
		if level < deepest-3 {
			fits(t, []int{1}, list(sub), even)
			fits(t, []int{2}, list(sub), !even)
		}
	}
	noVersion(t, []int{1}, list(sym("not"), ref), api.ErrForm)
	long := list(slices.Repeat(read("1"), mostNodes/2-1)...)
	v := slices.Repeat([]int{1}, mostNodes/2-1)
	fits(t, v, long, true)
	fits(t, v[1:], long, false)
	v[len(v)-1] = 2
	fits(t, v, long, false)
	noVersion(t, v, list(append(read("1"), slices.Repeat(read("1"), mostNodes/2-1)...)...), api.ErrForm)
	fits(t, slices.Repeat([]int{3}, 1000000), one("(3 3)"), true)
	noVersion(t, append(slices.Repeat([]int{3}, 1000000), -1), one("(3 3)"), api.ErrArg)
}
