package lists

import (
	"math"
	"strconv"
	"testing"

	"sextant/api"
)

// unsound are data that are none, each for another reason.
func unsound() []api.Datum {
	deep, wide := sym("a"), vector(repeated(empty(), mostNodes)...)
	for range deepest {
		deep = vector(deep)
	}
	out := []api.Datum{
		{}, {Kind: -1}, {Kind: 12}, {Kind: math.MaxInt}, {Kind: math.MinInt},
		{Kind: api.Nil, N: 1}, {Kind: api.Nil, Text: "a"}, {Kind: api.Nil, Raw: []byte{0}}, {Kind: api.Nil, List: []api.Datum{empty()}}, {Kind: api.Nil, Num: whole(0).Num},
		{Kind: api.Void, N: 1}, {Kind: api.Bool, N: 2}, {Kind: api.Char, N: 0xD800}, {Kind: api.Char, N: -1},
		{Kind: api.Number}, {Kind: api.Number, N: 1, Num: whole(1).Num}, {Kind: api.Number, Num: api.Num{Re: api.Rat{Top: []uint32{2}, Bot: []uint32{4}}, Im: whole(0).Num.Im}},
		str("a\xff"), sym("\xed\xa0\x80"), other("\x80"), {Kind: api.Bytes, Text: "a"}, {Kind: api.Vector, Raw: []byte{1}},
		{Kind: api.Pair}, {Kind: api.Pair, List: []api.Datum{empty()}}, {Kind: api.Pair, List: repeated(empty(), 3)}, {Kind: api.Pair, N: 1, List: repeated(empty(), 2)},
		list(repeated(sym("a"), mostNodes/2)...), wide, deep,
	}
	for _, kind := range []int{api.Pair, api.Vector} {
		for at := range 2 {
			circle := []api.Datum{empty(), empty()}
			circle[at] = api.Datum{Kind: kind, List: circle}
			out = append(out, circle[at])
		}
	}
	return out
}

// unsoundLists are lists, but for a part that is not sound, and such parts alone.
func unsoundLists(bad api.Datum) []api.Datum {
	return []api.Datum{bad, list(bad), list(read("(a 1)"), bad), list(bad, read("(a 1)")), dotted(bad, read("(a 1)")), list(pair(sym("a"), bad)), list(pair(bad, sym("a"))), list(read("(a 1)"), list(sym("b"), vector(bad))), dotted(sym("a"), bad)}
}

// P11.1, P11.2, P11.3: ErrForm, whichever datum is not sound, and ahead of all other errors.
func TestUnsound(t *testing.T) {
	goodOnes := append(all("a (a 1) ((a 1)) ((a 1) (b 2)) (1 . 2) ((a 1) b) ((a 1) . b) #(a)"), empty(), void())
	for i, bad := range unsound() {
		what := "where datum " + strconv.Itoa(i) + " of unsound is handed in"
		for _, d := range unsoundLists(bad) {
			for _, c := range unary() {
				is(t, c.name+" "+what, told(c.of(api.Datum{}, d)), "ErrForm")
			}
			for _, c := range binary() {
				is(t, c.name+" "+what+" as both", told(c.of(d, d)), "ErrForm")
				is(t, c.name+" "+what+" as both", told(c.of(bad, d)), "ErrForm")
				for _, good := range goodOnes {
					is(t, c.name+" "+what+" as x", told(c.of(d, good)), "ErrForm")
					is(t, c.name+" "+what+" as the list", told(c.of(good, d)), "ErrForm")
				}
			}
		}
	}
}

// P11.1: Append's ErrForm: one datum, any of them, also where another one is no list, or the answer would be too large.
func TestUnsoundAppend(t *testing.T) {
	large := list(repeated(sym("a"), 9000)...)
	for i, bad := range unsound() {
		what := "Append with datum " + strconv.Itoa(i) + " of unsound"
		for _, d := range unsoundLists(bad)[:4] {
			for _, in := range [][]api.Datum{
				{d}, {d, d}, {d, empty()}, {empty(), d}, {list(sym("a")), d}, {d, list(sym("a"))}, {empty(), d, empty()}, {empty(), empty(), d}, {d, d, d},
				{sym("a"), d}, {d, sym("a")}, {sym("a"), d, empty()}, {empty(), sym("a"), d}, {read("(1 . 2)"), sym("a"), d, empty()},
			} {
				is(t, what, told(Append(in...)), "ErrForm")
			}
		}
		is(t, what+" and too many", told(Append(large, large, bad)), "ErrForm")
		is(t, what+" and too many", told(Append(bad, large, large)), "ErrForm")
		is(t, what+" and too many and no list", told(Append(large, large, sym("a"), large, bad)), "ErrForm")
	}
}

// P11.1: Of answers nothing, if an item is not sound, whichever it is.
func TestUnsoundOf(t *testing.T) {
	for i, bad := range unsound() {
		for _, items := range [][]api.Datum{{bad}, {bad, bad}, {bad, empty()}, {empty(), bad}, {sym("a"), bad, sym("b")}, {sym("a"), sym("b"), bad}, {list(sym("a"), bad)}, {vector(bad)}, {pair(sym("a"), vector(sym("b"), bad)), sym("c")}} {
			if got := Of(items); !same(got, api.Datum{}) {
				t.Errorf("Of with datum %d of unsound is %s", i, told(got, api.OK))
			}
		}
	}
}

// P11.1, P11.2, P11.3: ErrType, where what must be a list is none, and ahead of ErrArg and ErrNone.
func TestNoLists(t *testing.T) {
	ends := append(all("#f #t 0 1/2 1+i #\\a \"\" \"a\" a #vu8() #vu8(1) #() #(1) #((a 1))"), void(), other(""), other("a"))
	for _, end := range ends {
		for _, d := range []api.Datum{end, pair(sym("a"), end), pair(empty(), end), dotted(end, read("(a 1)"), read("(b 2)")), dotted(end, someData()...)} {
			for _, x := range append(someData(), sym("a")) {
				for _, c := range append(unary(), binary()...) {
					is(t, c.name+" of "+told(d, api.OK), told(c.of(x, d)), "ErrType")
				}
			}
		}
	}
}

// P11.1, P11.2, P11.3: what else is asked for comes behind ErrType: a place beyond the end, what is not there.
func TestWhichError(t *testing.T) {
	for _, of := range []struct{ got, want string }{
		{told(Tail(read("(1 . 2)"), -1)), "ErrType"},
		{told(Tail(read("(1 2)"), -1)), "ErrArg"},
		{told(Tail(api.Datum{}, -1)), "ErrForm"},
		{told(Member(sym("z"), read("(1 . 2)"))), "ErrType"},
		{told(Member(sym("z"), read("(1 2)"))), "ErrNone"},
		{told(Member(api.Datum{}, read("(1 2)"))), "ErrForm"},
		{told(Member(api.Datum{}, read("(1 . 2)"))), "ErrForm"},
		{told(Assoc(sym("z"), read("(1 . 2)"))), "ErrType"},
		{told(Assoc(sym("z"), read("((1) 2)"))), "ErrType"},
		{told(Assoc(sym("z"), read("((1) (2))"))), "ErrNone"},
		{told(Assoc(api.Datum{}, read("((1) 2)"))), "ErrForm"},
		{told(Assoc(api.Datum{}, read("()"))), "ErrForm"},
		{told(Remove(sym("z"), read("(1 . 2)"))), "ErrType"},
		{told(Remove(sym("z"), read("(1 2)"))), "(1 2)"},
		{told(Remove(api.Datum{}, read("(1 2)"))), "ErrForm"},
		{told(Remove(api.Datum{}, read("()"))), "ErrForm"},
		{told(SortBy(list(sym("a"), api.Datum{}))), "ErrForm"},
		{told(SortBy(dotted(sym("a"), sym("b")))), "ErrType"},
	} {
		is(t, "an answer", of.got, of.want)
	}
}
