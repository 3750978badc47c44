package lists

import (
	"bytes"
	"slices"
	"strconv"
	"strings"
	"testing"

	"sextant/api"
	"sextant/datum"
	"sextant/write"
)

// The limits written out, so that the tests do not follow a slip of the program's.
const (
	mostNodes = 20000
	deepest   = 200
)

func empty() api.Datum { return api.Datum{Kind: api.Nil} }

func void() api.Datum { return api.Datum{Kind: api.Void} }

func other(text string) api.Datum { return api.Datum{Kind: api.Other, Text: text} }

func str(text string) api.Datum { return api.Datum{Kind: api.String, Text: text} }

func sym(text string) api.Datum { return api.Datum{Kind: api.Symbol, Text: text} }

func raw(b ...byte) api.Datum { return api.Datum{Kind: api.Bytes, Raw: b} }

func whole(n int) api.Datum { return read(strconv.Itoa(n)) }

func vector(items ...api.Datum) api.Datum { return api.Datum{Kind: api.Vector, List: items} }

func pair(a, b api.Datum) api.Datum {
	return api.Datum{Kind: api.Pair, List: []api.Datum{a, b}}
}

func list(items ...api.Datum) api.Datum { return dotted(empty(), items...) }

// dotted is a list that ends with the tail.
func dotted(tail api.Datum, items ...api.Datum) api.Datum {
	for _, item := range slices.Backward(items) {
		tail = pair(item, tail)
	}
	return tail
}

// repeated is that datum so many times, as items.
func repeated(d api.Datum, n int) []api.Datum { return slices.Repeat([]api.Datum{d}, n) }

// all are the data of a text.
func all(s string) []api.Datum {
	data, _, e := datum.All(s)
	if e != api.OK {
		panic(s)
	}
	return data
}

// read is the one datum of a text.
func read(s string) api.Datum {
	data := all(s)
	if len(data) != 1 {
		panic(s)
	}
	return data[0]
}

// someData are one or more sound data of each kind, by rising order.
func someData() []api.Datum {
	data := all("() #f #t -7 -1i 0 +1i 1/3 1 1+2/3i #\\x0 #\\a #\\xe000 \"\" \"a\" \"aé\" a\\x20;b b #vu8() #vu8(0) #vu8(0 255) (()) (1 a) (\"a\" . 1) #() #(()) #(() #((a . #vu8(1))))")
	return append(data, void(), other(""), other("procedure"))
}

// apart is the same tree, made of other memory; its empty lists are nil.
func apart(d api.Datum) api.Datum {
	re, im := d.Num.Re, d.Num.Im
	out := api.Datum{Kind: d.Kind, N: d.N, Text: strings.Clone(d.Text), Raw: append([]byte(nil), d.Raw...)}
	out.Num.Re = api.Rat{Neg: re.Neg, Top: append([]uint32(nil), re.Top...), Bot: append([]uint32(nil), re.Bot...)}
	out.Num.Im = api.Rat{Neg: im.Neg, Top: append([]uint32(nil), im.Top...), Bot: append([]uint32(nil), im.Bot...)}
	return withItems(out, d.List)
}

func withItems(out api.Datum, items []api.Datum) api.Datum {
	for _, item := range items {
		out.List = append(out.List, apart(item))
	}
	return out
}

// same holds all fields of two data against each other; nil and empty lists are the same.
func same(a, b api.Datum) bool {
	return a.Kind == b.Kind && a.N == b.N && sameRat(a.Num.Re, b.Num.Re) && sameRat(a.Num.Im, b.Num.Im) &&
		a.Text == b.Text && bytes.Equal(a.Raw, b.Raw) && slices.EqualFunc(a.List, b.List, same)
}

func sameRat(a, b api.Rat) bool {
	return a.Neg == b.Neg && slices.Equal(a.Top, b.Top) && slices.Equal(a.Bot, b.Bot)
}

// count is how many nodes a datum has.
func count(d api.Datum) int {
	n := 1
	for _, item := range d.List {
		n += count(item)
	}
	return n
}

// told is what a call has answered, as a text: the datum, or the error's name.
func told(d api.Datum, e api.Errno) string {
	if e != api.OK && !same(d, api.Datum{}) {
		return nameOf(e) + " beside something"
	}
	if e != api.OK {
		return nameOf(e)
	}
	text, e := write.Write(d)
	if e != api.OK {
		return "something that is not sound"
	}
	return text
}

func nameOf(e api.Errno) string {
	names := map[api.Errno]string{api.ErrArg: "ErrArg", api.ErrForm: "ErrForm", api.ErrLarge: "ErrLarge", api.ErrNone: "ErrNone", api.ErrType: "ErrType"}
	if name, ok := names[e]; ok {
		return name
	}
	return "error " + strconv.Itoa(int(e))
}

// toldItems is what Items has answered, as a text: the data between blanks, or the error's name.
func toldItems(items []api.Datum, e api.Errno) string {
	if e != api.OK && len(items) != 0 {
		return nameOf(e) + " beside something"
	}
	if e != api.OK {
		return nameOf(e)
	}
	var texts []string
	for _, item := range items {
		texts = append(texts, told(item, api.OK))
	}
	return strings.Join(texts, " ")
}

// is: the texts are one.
func is(t *testing.T, what, got, want string) {
	t.Helper()
	if got != want {
		t.Errorf("%s is %s, want %s", brief(what), brief(got), brief(want))
	}
}

// isDatum: a call has answered that datum, in every field.
func isDatum(t *testing.T, what string, got api.Datum, e api.Errno, want api.Datum) {
	t.Helper()
	if e != api.OK || !same(got, want) {
		t.Errorf("%s is %s, want %s", brief(what), brief(told(got, e)), brief(told(want, api.OK)))
	}
}

// brief is a text, cut short, for what a test says.
func brief(s string) string {
	if len(s) > 120 {
		return strings.ToValidUTF8(s[:90], "") + ".. of " + strconv.Itoa(len(s)) + " bytes"
	}
	return s
}

// call is one of the layer's calls, but for Of, of one datum x and one list d.
type call struct {
	name string
	of   func(x, d api.Datum) (api.Datum, api.Errno)
}

// unary are the calls that take a list alone.
func unary() []call {
	return []call{
		{"Items", func(x, d api.Datum) (api.Datum, api.Errno) {
			items, e := Items(d)
			if e != api.OK && len(items) == 0 {
				return api.Datum{}, e
			}
			return vector(items...), e
		}},
		{"Reverse", func(x, d api.Datum) (api.Datum, api.Errno) { return Reverse(d) }},
		{"Tail at 0", func(x, d api.Datum) (api.Datum, api.Errno) { return Tail(d, 0) }},
		{"Tail at -1", func(x, d api.Datum) (api.Datum, api.Errno) { return Tail(d, -1) }},
		{"Tail at 1", func(x, d api.Datum) (api.Datum, api.Errno) { return Tail(d, 1) }},
		{"Tail far beyond", func(x, d api.Datum) (api.Datum, api.Errno) { return Tail(d, 1<<40) }},
		{"Sort", func(x, d api.Datum) (api.Datum, api.Errno) { return Sort(d) }},
		{"SortBy", func(x, d api.Datum) (api.Datum, api.Errno) { return SortBy(d) }},
	}
}

// binary are those that take a datum and a list.
func binary() []call {
	return []call{
		{"Member", Member},
		{"Assoc", Assoc},
		{"Remove", Remove},
	}
}
