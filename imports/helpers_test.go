package imports

import (
	"bytes"
	"fmt"
	"math"
	"slices"
	"strings"
	"testing"

	"sextant/api"
	"sextant/datum"
	"sextant/write"
)

// The limits written out, so that the tests do not follow a slip of the program's.
const (
	mostLibs  = 64
	mostNodes = 20000
	deepest   = 200
	mostOf    = 2147483647 // of a version's numbers
	maxInt    = math.MaxInt
	minInt    = math.MinInt
)

// read is the data of a text.
func read(s string) []api.Datum {
	data, _, e := datum.All(s)
	if e != api.OK {
		panic(s)
	}
	return data
}

// one is the datum of a text.
func one(s string) api.Datum {
	data := read(s)
	if len(data) != 1 {
		panic(s)
	}
	return data[0]
}

func sym(text string) api.Datum { return api.Datum{Kind: api.Symbol, Text: text} }

func empty() api.Datum { return api.Datum{Kind: api.Nil} }

func vector(items ...api.Datum) api.Datum { return api.Datum{Kind: api.Vector, List: items} }

func list(items ...api.Datum) api.Datum {
	out := empty()
	for _, item := range slices.Backward(items) {
		out = api.Datum{Kind: api.Pair, List: []api.Datum{item, out}}
	}
	return out
}

// nested is a datum in so many vectors.
func nested(d api.Datum, levels int) api.Datum {
	for range levels {
		d = vector(d)
	}
	return d
}

// unsound are data that are none, each for another reason.
func unsound() []api.Datum {
	out := []api.Datum{
		{}, {Kind: 12}, {Kind: -1}, {Kind: maxInt}, {Kind: api.Nil, N: 1}, {Kind: api.Bool, N: 2}, {Kind: api.Bool, Text: "a"}, {Kind: api.Number}, {Kind: api.Char, N: 0xD800}, {Kind: api.Char, N: minInt},
		sym("\xff"), {Kind: api.String, Text: "a\xc3"}, {Kind: api.Bytes, Text: "a"}, {Kind: api.Pair}, {Kind: api.Pair, List: read("()")}, {Kind: api.Vector, Raw: []byte{1}},
		vector(slices.Repeat(read("()"), mostNodes)...), nested(sym("a"), deepest), vector(empty(), vector(empty(), sym("\x80"))),
		list(sym("a"), api.Datum{}), list(sym("a"), list(api.Datum{Kind: api.Number})), list(sym("\xff")), list(slices.Repeat(read("a"), mostNodes/2)...),
	}
	for at := range 2 {
		circle := read("() ()")
		circle[at] = api.Datum{Kind: api.Pair, List: circle}
		out = append(out, circle[at])
	}
	return out
}

// words are those of a text.
func words(s string) []string { return strings.Fields(s) }

// The sets of each kind.

func library(name, ref string) api.Import {
	return api.Import{Kind: 0, Name: words(name), Ref: one(ref)}
}

func outer(kind int, of api.Import, names string) api.Import {
	return api.Import{Kind: kind, Of: []api.Import{of}, Names: words(names)}
}

func only(of api.Import, names string) api.Import { return outer(1, of, names) }

func except(of api.Import, names string) api.Import { return outer(2, of, names) }

func prefix(of api.Import, name string) api.Import { return outer(3, of, name) }

func rename(of api.Import, names string) api.Import { return outer(4, of, names) }

// around puts a set into so many others of a kind.
func around(kind int, set api.Import, names string, levels int) api.Import {
	for range levels {
		set = outer(kind, set, names)
	}
	return set
}

// bound are bindings, each told as NAME or as NAME=OF.
func bound(s string) []api.Binding {
	var out []api.Binding
	for _, word := range words(s) {
		name, of, ok := strings.Cut(word, "=")
		if !ok {
			of = name
		}
		out = append(out, api.Binding{Name: name, Of: of})
	}
	return out
}

// faultySets are such as Read never makes, in each of the ways that the chapter lists.
func faultySets() []api.Import {
	a := library("a", "()")
	out := []api.Import{
		{Kind: -1, Name: words("a"), Ref: empty()}, {Kind: 5, Name: words("a"), Ref: empty()}, {Kind: minInt}, {Kind: maxInt}, {Kind: 1 << 32},
		outer(-1, a, ""), outer(5, a, ""), outer(6, a, "x"), outer(minInt, a, "x"), outer(maxInt, a, "x y"), outer(1<<32, a, ""), outer(1<<32+1, a, "x"),
		{Kind: 0, Name: words("a"), Ref: empty(), Of: []api.Import{a}}, {Kind: 0, Name: words("a"), Ref: empty(), Of: []api.Import{a, a}}, {Kind: 0, Of: []api.Import{{}}},
		prefix(a, ""), prefix(a, "p q"), prefix(a, "p q r"), rename(a, "x"), rename(a, "x y z"), rename(a, "x y z x y"),
	}
	for kind := 1; kind <= 4; kind++ {
		names := words([]string{"", "", "x", "p", "x y"}[kind])
		out = append(out, api.Import{Kind: kind, Names: names}, api.Import{Kind: kind, Of: []api.Import{a, a}, Names: names}, api.Import{Kind: kind, Of: []api.Import{a, a, a}, Names: names})
	}
	return out
}

// alike holds all fields of two data against each other; nil and empty lists are the same.
func alike(a, b api.Datum) bool {
	return a.Kind == b.Kind && a.N == b.N && alikeRat(a.Num.Re, b.Num.Re) && alikeRat(a.Num.Im, b.Num.Im) &&
		a.Text == b.Text && bytes.Equal(a.Raw, b.Raw) && slices.EqualFunc(a.List, b.List, alike)
}

func alikeRat(a, b api.Rat) bool {
	return a.Neg == b.Neg && slices.Equal(a.Top, b.Top) && slices.Equal(a.Bot, b.Bot)
}

func alikeSet(a, b api.Import) bool {
	return a.Kind == b.Kind && slices.Equal(a.Name, b.Name) && alike(a.Ref, b.Ref) && slices.EqualFunc(a.Of, b.Of, alikeSet) && slices.Equal(a.Names, b.Names)
}

func alikeLibrary(a, b api.Library) bool {
	return slices.Equal(a.Name, b.Name) && slices.Equal(a.Version, b.Version) && slices.Equal(a.Exports, b.Exports) &&
		slices.EqualFunc(a.Imports, b.Imports, alikeSet) && slices.EqualFunc(a.Body, b.Body, alike)
}

// brief is what a test says of a datum, cut short.
func brief(d api.Datum) string {
	s, e := write.Write(d)
	if e != api.OK {
		return fmt.Sprintf("no sound datum of kind %d", d.Kind)
	}
	return s[:min(len(s), 300)]
}

// tell is a text of anything that has all of it, cut short.
func tell(thing any) string {
	s := fmt.Sprintf("%+v", thing)
	return s[:min(len(s), 500)]
}

// tellSet is a text of a set, cut short.
func tellSet(i api.Import) string {
	s := ""
	for range 20 {
		if len(i.Of) != 1 {
			break
		}
		s += fmt.Sprintf("%d %q of ", i.Kind, i.Names)
		i = i.Of[0]
	}
	return s + fmt.Sprintf("%d %q %s with %d in Of and Names %q", i.Kind, i.Name, brief(i.Ref), len(i.Of), i.Names)
}

// reads: Read answers that set.
func reads(t *testing.T, d api.Datum, want api.Import) {
	t.Helper()
	if got, e := Read(d); e != api.OK || !alikeSet(got, want) {
		t.Errorf("Read(%s): %s, error %d; want %s", brief(d), tellSet(got), e, tellSet(want))
	}
}

// noRead: Read answers an error alone.
func noRead(t *testing.T, d api.Datum, want api.Errno) {
	t.Helper()
	if got, e := Read(d); e != want || !alikeSet(got, api.Import{}) {
		t.Errorf("Read(%s): %s, error %d; want error %d", brief(d), tellSet(got), e, want)
	}
}

func fits(t *testing.T, v []int, ref api.Datum, want bool) {
	t.Helper()
	if got, e := Version(v, ref); e != api.OK || got != want {
		t.Errorf("Version(%v, %s): %v, error %d; want %v", v, brief(ref), got, e, want)
	}
}

func noVersion(t *testing.T, v []int, ref api.Datum, want api.Errno) {
	t.Helper()
	if got, e := Version(v, ref); e != want || got {
		t.Errorf("Version(%v, %s): %v, error %d; want error %d", v, brief(ref), got, e, want)
	}
}

func names(t *testing.T, i api.Import, exports, want []api.Binding) {
	t.Helper()
	if got, e := Names(i, exports); e != api.OK || !slices.Equal(got, want) {
		t.Errorf("Names(%s) of %s: %s, error %d; want %s", tellSet(i), tell(exports), tell(got), e, tell(want))
	}
}

func noNames(t *testing.T, i api.Import, exports []api.Binding, want api.Errno) {
	t.Helper()
	if got, e := Names(i, exports); e != want || len(got) > 0 {
		t.Errorf("Names(%s) of %s: %s, error %d; want error %d", tellSet(i), tell(exports), tell(got), e, want)
	}
}

func merges(t *testing.T, want []api.Binding, given ...[]api.Binding) {
	t.Helper()
	if got, e := Merge(given...); e != api.OK || !slices.Equal(got, want) {
		t.Errorf("Merge%s: %s, error %d; want %s", tell(given), tell(got), e, tell(want))
	}
}

func noMerge(t *testing.T, given ...[]api.Binding) {
	t.Helper()
	if got, e := Merge(given...); e != api.ErrTwice || len(got) > 0 {
		t.Errorf("Merge%s: %s, error %d; want error %d", tell(given), tell(got), e, api.ErrTwice)
	}
}

func makes(t *testing.T, d api.Datum, want api.Library) {
	t.Helper()
	if got, e := Library(d); e != api.OK || !alikeLibrary(got, want) {
		t.Errorf("Library(%s): %s, error %d; want %s", brief(d), tell(got), e, tell(want))
	}
}

func noLibrary(t *testing.T, d api.Datum, want api.Errno) {
	t.Helper()
	if got, e := Library(d); e != want || !alikeLibrary(got, api.Library{}) {
		t.Errorf("Library(%s): %s, error %d; want error %d", brief(d), tell(got), e, want)
	}
}

func orders(t *testing.T, libs []api.Library, imports []api.Import, want ...int) {
	t.Helper()
	if got, e := Order(libs, imports); e != api.OK || !slices.Equal(got, want) {
		t.Errorf("Order of %d libraries by %s: %v, error %d; want %v", len(libs), tellSets(imports), got, e, want)
	}
}

func noOrder(t *testing.T, libs []api.Library, imports []api.Import, want api.Errno) {
	t.Helper()
	if got, e := Order(libs, imports); e != want || len(got) > 0 {
		t.Errorf("Order of %d libraries by %s: %v, error %d; want error %d", len(libs), tellSets(imports), got, e, want)
	}
}

func tellSets(imports []api.Import) string {
	var out []string
	for _, i := range imports[:min(len(imports), 5)] {
		out = append(out, tellSet(i))
	}
	return strings.Join(out, ", ")
}

// slice are so many symbols of one text.
func slice(text string, count int) []api.Datum { return slices.Repeat([]api.Datum{sym(text)}, count) }
