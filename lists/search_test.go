package lists

import (
	"slices"
	"testing"

	"sextant/api"
	"sextant/equal"
)

// P11.2: Member and Remove of what is there never, once, several times, first and last.
func TestMemberAndRemove(t *testing.T) {
	for _, of := range []struct{ x, list, rest, left string }{
		{"a", "()", "ErrNone", "()"},
		{"a", "(b)", "ErrNone", "(b)"},
		{"a", "(b c d)", "ErrNone", "(b c d)"},
		{"a", "(a)", "(a)", "()"},
		{"a", "(a b c)", "(a b c)", "(b c)"},
		{"a", "(b a c)", "(a c)", "(b c)"},
		{"a", "(b c a)", "(a)", "(b c)"},
		{"a", "(b a c a d)", "(a c a d)", "(b c d)"},
		{"a", "(a b a)", "(a b a)", "(b)"},
		{"a", "(a a a)", "(a a a)", "()"},
		{"a", "(b a a c)", "(a a c)", "(b c)"},
		{"a", "((a) #(a) \"a\" #\\a)", "ErrNone", "((a) #(a) \"a\" #\\a)"},
		{"()", "()", "ErrNone", "()"},
		{"()", "(a b)", "ErrNone", "(a b)"},
		{"()", "(a () b ())", "(() b ())", "(a b)"},
		{"(2 3)", "(1 2 3)", "ErrNone", "(1 2 3)"},
		{"(1 2 3)", "(1 2 3)", "ErrNone", "(1 2 3)"},
		{"(1 2)", "((1) (1 2) (1 . 2) (1 2 3))", "((1 2) (1 . 2) (1 2 3))", "((1) (1 . 2) (1 2 3))"},
		{"1", "(#t #\\x1 \"1\" \\x31; #vu8(1) (1) 1)", "(1)", "(#t #\\x1 \"1\" \\x31; #vu8(1) (1))"},
		{"1/2", "(1 2 2/4 -1/2 1/2)", "(1/2 -1/2 1/2)", "(1 2 -1/2)"},
		{"1+2i", "(1 2 1-2i 1+2i)", "(1+2i)", "(1 2 1-2i)"},
		{"#f", "(#t () #f 0)", "(#f 0)", "(#t () 0)"},
		{"#(a (b))", "(#(a b) #(a (b)) #(a (b) c))", "(#(a (b)) #(a (b) c))", "(#(a b) #(a (b) c))"},
		{"\"ab\"", "(ab \"Ab\" \"ab\")", "(\"ab\")", "(ab \"Ab\")"},
		{"#vu8(1 2)", "(#(1 2) (1 2) #vu8(1 2) #vu8(1))", "(#vu8(1 2) #vu8(1))", "(#(1 2) (1 2) #vu8(1))"},
	} {
		is(t, "Member("+of.x+", "+of.list+")", told(Member(read(of.x), read(of.list))), of.rest)
		is(t, "Remove("+of.x+", "+of.list+")", told(Remove(read(of.x), read(of.list))), of.left)
	}
}

// P11.2: what must be a list, where x is there or not, and ahead of what is no list's end.
func TestMemberAndRemoveOfNoLists(t *testing.T) {
	for _, text := range []string{"a", "1", "#(a)", "(b . a)", "(a . a)", "(a b . c)", "(b . #(a))", "\"a\""} {
		is(t, "Member(a, "+text+")", told(Member(sym("a"), read(text))), "ErrType")
		is(t, "Remove(a, "+text+")", told(Remove(sym("a"), read(text))), "ErrType")
		is(t, "Assoc(a, "+text+")", told(Assoc(sym("a"), read(text))), "ErrType")
	}
}

// P11.2: Assoc, of pairs whose first is there never, once, several times, first and last.
func TestAssoc(t *testing.T) {
	for _, of := range []struct{ x, list, want string }{
		{"a", "()", "ErrNone"},
		{"a", "((b 1))", "ErrNone"},
		{"a", "((b . a) (c a))", "ErrNone"},
		{"a", "((a . 1))", "(a . 1)"},
		{"a", "((a))", "(a)"},
		{"a", "((a . 1) (b . 2))", "(a . 1)"},
		{"b", "((a . 1) (b . 2) (c . 3))", "(b . 2)"},
		{"c", "((a . 1) (b . 2) (c . 3))", "(c . 3)"},
		{"a", "((b . 0) (a . 1) (a . 2) (a . 3))", "(a . 1)"},
		{"a", "(((a) . 1) (#(a) . 2) (\"a\" . 3))", "ErrNone"},
		{"(a)", "((a . 1) ((a) . 2))", "((a) . 2)"},
		{"()", "((a) (() . b))", "(() . b)"},
		{"()", "((a) (b))", "ErrNone"},
		{"2/4", "((1 . a) (1/2 . b))", "(1/2 . b)"},
		{"#(1 (2))", "((#(1 2) . a) (#(1 (2)) b c . d))", "(#(1 (2)) b c . d)"},
		{"(a . 1)", "((a . 1))", "ErrNone"},
		{"(a 1)", "((a 1) ((a 1) 2))", "((a 1) 2)"},
	} {
		is(t, "Assoc("+of.x+", "+of.list+")", told(Assoc(read(of.x), read(of.list))), of.want)
	}
}

// P11.2: an item that is no pair, ahead of the pair that is looked for, behind it, and where there is no such pair.
func TestAssocOfNoPairs(t *testing.T) {
	for _, none := range append(all("() a #t 1 #\\a \"a\" #vu8(1) #() #(a 1)"), void(), other("a")) {
		found := read("(a 1)")
		for _, items := range [][]api.Datum{
			{none}, {none, found}, {found, none}, {read("(b 2)"), none, found}, {read("(b 2)"), found, none}, {found, read("(b 2)"), none}, {read("(b 2)"), none}, {none, read("(b 2)")}, {none, none},
		} {
			is(t, "Assoc(a, "+told(list(items...), api.OK)+")", told(Assoc(sym("a"), list(items...))), "ErrType")
		}
	}
}

// P11.2: each kind is found among all others, also where it was made apart.
func TestEachKindIsFound(t *testing.T) {
	data := someData()
	var pairs []api.Datum
	for i, d := range data {
		pairs = append(pairs, pair(d, whole(i)))
	}
	for i, d := range data {
		x := apart(d)
		got, e := Member(x, list(data...))
		isDatum(t, "Member", got, e, list(data[i:]...))
		got, e = Remove(x, list(data...))
		isDatum(t, "Remove", got, e, list(slices.Concat(data[:i], data[i+1:])...))
		got, e = Assoc(x, list(pairs...))
		isDatum(t, "Assoc", got, e, pairs[i])
		others := slices.Concat(data[:i], data[i+1:])
		is(t, "Member of what is not there", told(Member(x, list(others...))), "ErrNone")
		is(t, "Assoc of what is not there", told(Assoc(x, list(slices.Concat(pairs[:i], pairs[i+1:])...))), "ErrNone")
		got, e = Remove(x, list(others...))
		isDatum(t, "Remove of what is not there", got, e, list(others...))
	}
}

// P11.2: an item of other room, or with empty lists in the place of nil ones, is Equal all the same; what is answered is the list's own.
func TestFoundThroughOtherRoom(t *testing.T) {
	for _, d := range someData() {
		x := roomy(d, 5)
		got, e := Member(x, list(sym("z"), d, d))
		isDatum(t, "Member", got, e, list(d, d))
		got, e = Assoc(x, list(list(sym("z")), pair(d, whole(1)), pair(d, whole(2))))
		isDatum(t, "Assoc", got, e, pair(d, whole(1)))
		got, e = Remove(x, list(d, sym("z"), roomy(d, 6)))
		isDatum(t, "Remove", got, e, list(sym("z")))
	}
}

// P11.2: x may be as large as a datum can be, and so may what it is looked for in.
func TestLargeSearches(t *testing.T) {
	large := vector(repeated(empty(), mostNodes-1)...)
	items := repeated(sym("a"), 9997)
	is(t, "Member of a large one", told(Member(large, list(items...))), "ErrNone")
	is(t, "Assoc of a large one", told(Assoc(large, list(repeated(list(sym("a")), 4000)...))), "ErrNone")
	got, e := Remove(large, list(items...))
	isDatum(t, "Remove of a large one", got, e, list(items...))
	inside := vector(repeated(empty(), mostNodes-4)...)
	got, e = Member(apart(inside), list(inside))
	isDatum(t, "Member of a large one that is there", got, e, list(inside))
	got, e = Member(sym("b"), list(append(items, sym("b"))...))
	isDatum(t, "Member at the end", got, e, list(sym("b")))
	got, e = Remove(sym("a"), list(append(items, sym("b"))...))
	isDatum(t, "Remove of all but one", got, e, list(sym("b")))
}

// P11.2: what has the hash of x, but is another datum, is not taken for it.
func TestOneHash(t *testing.T) {
	x, twin := "6442450944", "13042440268278661121"
	if equal.Hash(read(x)) != equal.Hash(read(twin)) {
		t.Fatal("the hashes are others now: look for two numbers that have one")
	}
	is(t, "Member", told(Member(read(x), read("(1 "+twin+" "+x+")"))), "("+x+")")
	is(t, "Assoc", told(Assoc(read(x), read("((1) ("+twin+" 1) ("+x+" 2))"))), "("+x+" 2)")
	is(t, "Remove", told(Remove(read(x), read("(1 "+twin+" "+x+")"))), "(1 "+twin+")")
}
