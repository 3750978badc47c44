package pattern

import (
	"bytes"
	"fmt"
	"math"
	"slices"
	"strconv"
	"strings"
	"testing"

	"sextant/api"
	"sextant/datum"
	"sextant/write"
)

// The limits written out, so that the tests do not follow a slip of the program's.
const (
	mostNodes = 20000
	deepest   = 200
	maxInt    = math.MaxInt
	minInt    = math.MinInt
)

// read is the data of a text.
func read(s string) []api.Datum {
	data, _, e := datum.All(s)
	if e != api.OK {
		panic(s)
	}
	return data
}

// one is the datum of a text.
func one(s string) api.Datum {
	data := read(s)
	if len(data) != 1 {
		panic(s)
	}
	return data[0]
}

func sym(text string) api.Datum { return api.Datum{Kind: api.Symbol, Text: text} }

func empty() api.Datum { return api.Datum{Kind: api.Nil} }

func void() api.Datum { return api.Datum{Kind: api.Void} }

func other(text string) api.Datum { return api.Datum{Kind: api.Other, Text: text} }

func vector(items ...api.Datum) api.Datum { return api.Datum{Kind: api.Vector, List: items} }

func list(items ...api.Datum) api.Datum { return dotted(empty(), items...) }

// dotted is a list that ends with last.
func dotted(last api.Datum, items ...api.Datum) api.Datum {
	for _, item := range slices.Backward(items) {
		last = api.Datum{Kind: api.Pair, List: []api.Datum{item, last}}
	}
	return last
}

func times(d api.Datum, n int) []api.Datum { return slices.Repeat([]api.Datum{d}, n) }

// nested is a datum in so many vectors.
func nested(d api.Datum, levels int) api.Datum {
	for range levels {
		d = vector(d)
	}
	return d
}

// someData are one or more sound data of each kind but symbols.
func someData() []api.Datum {
	data := read("() #f #t -7 0 1 1/3 1+2/3i #\\x0 #\\a \"\" \"a\" \"a\\né\" #vu8() #vu8(0 255) (1) (1 a) (\"a\" . 1) #() #(1) #(() #((a . #vu8(1 2))) 1/2-3i)")
	return append(data, void(), other(""), other("procedure"), nested(empty(), deepest-1), vector(times(empty(), mostNodes-1)...))
}

func someSymbols() []api.Datum { return read("a b else A ab a\\x20;b \\x0; é + - ->") }

// unsound are data that are none, each for another reason.
func unsound() []api.Datum {
	out := []api.Datum{
		{}, {Kind: 12}, {Kind: -1}, {Kind: maxInt}, {Kind: api.Nil, N: 1}, {Kind: api.Bool, N: 2}, {Kind: api.Bool, Text: "a"}, {Kind: api.Bool, List: []api.Datum{empty()}}, {Kind: api.Number}, {Kind: api.Char, N: 0xD800}, {Kind: api.Char, N: minInt},
		sym("\xff"), {Kind: api.String, Text: "a\xc3"}, {Kind: api.Bytes, Text: "a"}, {Kind: api.Pair}, {Kind: api.Pair, List: read("()")}, {Kind: api.Vector, Raw: []byte{1}},
		vector(times(empty(), mostNodes)...), nested(sym("a"), deepest), vector(empty(), vector(empty(), sym("\x80"))), list(sym("a"), api.Datum{}),
	}
	for at := range 2 {
		circle := read("() ()")
		circle[at] = api.Datum{Kind: api.Pair, List: circle}
		out = append(out, circle[at])
	}
	return out
}

// alike holds all fields of two data against each other; nil and empty lists are the same.
func alike(a, b api.Datum) bool {
	return a.Kind == b.Kind && a.N == b.N && alikeRat(a.Num.Re, b.Num.Re) && alikeRat(a.Num.Im, b.Num.Im) &&
		a.Text == b.Text && bytes.Equal(a.Raw, b.Raw) && slices.EqualFunc(a.List, b.List, alike)
}

func alikeRat(a, b api.Rat) bool {
	return a.Neg == b.Neg && slices.Equal(a.Top, b.Top) && slices.Equal(a.Bot, b.Bot)
}

func alikeMatch(a, b api.Match) bool {
	return a.Name == b.Name && a.Depth == b.Depth && alike(a.Value, b.Value) && slices.EqualFunc(a.List, b.List, alikeMatch)
}

// words are those of a text.
func words(s string) []string { return strings.Fields(s) }

// bound are matches, told by a text: a name, a depth, and a datum each, which is the Value, or a list of such for the items of the List.
func bound(s string) []api.Match {
	var out []api.Match
	for rest := read(s); len(rest) > 0; rest = rest[3:] {
		n, e := write.Display(rest[1])
		level, bad := strconv.Atoi(n)
		if e != api.OK || bad != nil {
			panic(s)
		}
		out = append(out, matched(rest[0].Text, level, rest[2]))
	}
	return out
}

func matched(name string, level int, d api.Datum) api.Match {
	if level == 0 {
		return api.Match{Name: name, Value: d}
	}
	out := api.Match{Name: name, Depth: level}
	for d.Kind == api.Pair {
		out.List = append(out.List, matched(name, level-1, d.List[0]))
		d = d.List[1]
	}
	return out
}

// listed is a match of depth 1.
func listed(name string, items ...api.Datum) api.Match { return matched(name, 1, list(items...)) }

// told is what a test says of a datum or an error, cut short.
func told(d api.Datum, e api.Errno) string {
	if e != api.OK && alike(d, api.Datum{}) {
		return "error " + strconv.Itoa(int(e))
	}
	if e != api.OK {
		return "error " + strconv.Itoa(int(e)) + " and something beside it"
	}
	s, e := write.Write(d)
	if e != api.OK {
		return "no sound datum"
	}
	return s[:min(len(s), 300)]
}

func brief(d api.Datum) string { return told(d, api.OK) }

// tell is a text of matches that has all of them.
func tell(m []api.Match) string {
	s := fmt.Sprintf("%+v", m)
	return s[:min(len(s), 600)]
}

// hasVars: Vars answers the variables of a text, each told as NAME/DEPTH.
func hasVars(t *testing.T, p api.Datum, literals []string, want string) {
	t.Helper()
	m, e := Vars(p, literals)
	var got []string
	for _, match := range m {
		got = append(got, match.Name+"/"+strconv.Itoa(match.Depth))
		if !alike(match.Value, api.Datum{}) || len(match.List) > 0 {
			t.Errorf("Vars(%s, %q): %s has more than a name and a depth", brief(p), literals, match.Name)
		}
	}
	if e != api.OK || !slices.Equal(got, words(want)) {
		t.Errorf("Vars(%s, %q): %q, error %d; want %q", brief(p), literals, got, e, want)
	}
}

// noVars: Vars answers an error alone.
func noVars(t *testing.T, p api.Datum, literals []string, want api.Errno) {
	t.Helper()
	if m, e := Vars(p, literals); e != want || len(m) > 0 {
		t.Errorf("Vars(%s, %q): %s, error %d; want error %d", brief(p), literals, tell(m), e, want)
	}
}

// finds: Find answers these matches.
func finds(t *testing.T, p api.Datum, literals []string, d api.Datum, want ...api.Match) {
	t.Helper()
	if m, e := Find(p, literals, d); e != api.OK || !slices.EqualFunc(m, want, alikeMatch) {
		t.Errorf("Find(%s, %q, %s): %s, error %d; want %s", brief(p), literals, brief(d), tell(m), e, tell(want))
	}
}

// noFind: Find answers an error alone.
func noFind(t *testing.T, p api.Datum, literals []string, d api.Datum, want api.Errno) {
	t.Helper()
	if m, e := Find(p, literals, d); e != want || len(m) > 0 {
		t.Errorf("Find(%s, %q, %s): %s, error %d; want error %d", brief(p), literals, brief(d), tell(m), e, want)
	}
}

// fills: Fill answers that datum.
func fills(t *testing.T, template api.Datum, m []api.Match, want api.Datum) {
	t.Helper()
	if d, e := Fill(template, m); e != api.OK || !alike(d, want) {
		t.Errorf("Fill(%s, %s): %s; want %s", brief(template), tell(m), told(d, e), brief(want))
	}
}

// noFill: Fill answers an error alone.
func noFill(t *testing.T, template api.Datum, m []api.Match, want api.Errno) {
	t.Helper()
	if d, e := Fill(template, m); e != want || !alike(d, api.Datum{}) {
		t.Errorf("Fill(%s, %s): %s; want error %d", brief(template), tell(m), told(d, e), want)
	}
}
