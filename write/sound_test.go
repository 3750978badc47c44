package write

import (
	"math"
	"slices"
	"strconv"
	"testing"

	"sextant/api"
)

// someData has one or more sound data of each kind.
func someData() []api.Datum {
	return []api.Datum{
		empty(), void(), boolean(0), boolean(1), whole(0), whole(-7), complexNumber(1, 3, -2, 1),
		char(0), char('a'), char(0xD7FF), char(0xE000), char(0xFFFD), char(0x10FFFF),
		str(""), str("a\x00é\ufffd\U0001f600"), sym(""), sym("a b"), other(""), other("procedure"),
		raw(), raw(0, 255), pair(empty(), empty()), list(whole(1), sym("a")), dotted(str("b"), whole(1)), quote(sym("a")), vector(), vector(empty(), vector(pair(sym("a"), raw(1)))),
	}
}

// places are the datum itself and others that have it inside, once each: in every kind of list, and deep down.
func places(d api.Datum) []api.Datum {
	deep := vector(d)
	for range 100 {
		deep = pair(empty(), vector(sym("a"), deep, sym("a")))
	}
	return []api.Datum{d, vector(d), vector(empty(), d, empty()), list(d), pair(sym("a"), d), quote(d), dotted(d, sym("quote"), sym("a")), list(sym("a"), vector(empty(), d)), dotted(d, repeated(sym("a"), 1000)...), deep}
}

// refusedAnywhere: such a datum is refused at the top, and so is each that has it inside.
func refusedAnywhere(t *testing.T, what string, d api.Datum) {
	t.Helper()
	for _, whole := range places(d) {
		refused(t, what, whole)
	}
}

// P9.1: sound data of each kind in all the places in which those that are not sound are refused below.
func TestSoundAnywhere(t *testing.T) {
	for _, d := range someData() {
		for _, whole := range places(d) {
			heldToModel(t, whole)
		}
	}
}

// P9.1: ErrForm for a field that the kind does not name, each for itself.
func TestUnsoundFields(t *testing.T) {
	named := map[int]string{
		api.Bool: "N", api.Number: "Num", api.Char: "N", api.String: "Text", api.Symbol: "Text", api.Other: "Text", api.Bytes: "Raw", api.Pair: "List", api.Vector: "List",
	}
	for _, filled := range []struct {
		field, what string
		fill        func(d *api.Datum)
	}{
		{"N", "1", func(d *api.Datum) { d.N = 1 }},
		{"N", "-1", func(d *api.Datum) { d.N = -1 }},
		{"Num", "Re.Neg", func(d *api.Datum) { d.Num.Re.Neg = true }},
		{"Num", "Re.Top", func(d *api.Datum) { d.Num.Re.Top = []uint32{1} }},
		{"Num", "Re.Bot", func(d *api.Datum) { d.Num.Re.Bot = []uint32{1} }},
		{"Num", "Im.Neg", func(d *api.Datum) { d.Num.Im.Neg = true }},
		{"Num", "Im.Top", func(d *api.Datum) { d.Num.Im.Top = []uint32{0} }},
		{"Num", "Im.Bot", func(d *api.Datum) { d.Num.Im.Bot = []uint32{1} }},
		{"Num", "a 0", func(d *api.Datum) { d.Num = whole(0).Num }},
		{"Text", "a", func(d *api.Datum) { d.Text = "a" }},
		{"Raw", "a byte 0", func(d *api.Datum) { d.Raw = []byte{0} }},
		{"List", "one", func(d *api.Datum) { d.List = []api.Datum{empty()} }},
		{"List", "two", func(d *api.Datum) { d.List = []api.Datum{empty(), empty()} }},
	} {
		for _, d := range someData() {
			if named[d.Kind] != filled.field {
				filled.fill(&d)
				refusedAnywhere(t, filled.field+", "+filled.what+", of kind "+strconv.Itoa(d.Kind), d)
			}
		}
	}
}

// P9.1: ErrForm for what is no kind, and for fields that are not as their kind asks.
func TestUnsoundKinds(t *testing.T) {
	for _, kind := range []int{0, -1, 12, 13, 255, 256 + api.Nil, 1<<32 + api.Nil, math.MaxInt, math.MinInt} {
		refusedAnywhere(t, "no kind", api.Datum{Kind: kind})
	}
	for _, n := range []int{2, -1, 256, 1 << 32, 1<<32 + 1, math.MaxInt, math.MinInt} {
		refusedAnywhere(t, "a Bool", boolean(n))
	}
	for _, n := range []int{-1, 0xD800, 0xDBFF, 0xDC00, 0xDFFF, 0x110000, 1<<32 + 'a', -(1 << 32) + 'a', 1 << 31, math.MaxInt, math.MinInt} {
		refusedAnywhere(t, "a Char", api.Datum{Kind: api.Char, N: n})
	}
	for _, n := range []int{0, 1, 3, 4} {
		refusedAnywhere(t, "a Pair", api.Datum{Kind: api.Pair, List: repeated(empty(), n)})
	}
	refusedAnywhere(t, "a Pair", api.Datum{Kind: api.Pair, List: []api.Datum{sym("quote")}})
	refusedAnywhere(t, "a Pair", api.Datum{Kind: api.Pair, List: []api.Datum{sym("quote"), {Kind: api.Pair}}})
	for _, kind := range []int{api.String, api.Symbol, api.Other} {
		for _, text := range []string{"\xff", "a\x80b", "\xc3", "a\xe2\x80", "\xed\xa0\x80", "\xf4\x90\x80\x80", "\xc0\x80", "->\xff", "quote\xff"} {
			refusedAnywhere(t, "a Text with a bad byte", api.Datum{Kind: kind, Text: text})
		}
	}
}

// P9.1: ErrForm for a Number of which Num is not sound by chapter 3.
func TestUnsoundNumbers(t *testing.T) {
	refusedAnywhere(t, "a number without words", api.Datum{Kind: api.Number})
	ones, power := longest()
	for what, change := range map[string]func(n *api.Num){
		"not in its lowest terms": func(n *api.Num) { n.Re = fraction(2, 4) },
		"over 0":                  func(n *api.Num) { n.Im.Bot = nil },
		"0 over 2":                func(n *api.Num) { n.Im.Bot = []uint32{2} },
		"0 with a sign":           func(n *api.Num) { n.Im.Neg = true },
		"a word 0 at the end":     func(n *api.Num) { n.Re.Top = []uint32{1, 0} },
		"a Top of too many words": func(n *api.Num) { n.Re.Top = append(slices.Clone(ones), 1) },
		"a Bot of too many words": func(n *api.Num) { n.Re.Bot = append(slices.Clone(power), 1) },
	} {
		d := whole(1)
		change(&d.Num)
		refusedAnywhere(t, what, d)
	}
}

// P9.1: ErrForm beyond MaxNodes nodes, and beyond MaxDepth on a way.
func TestUnsoundSizes(t *testing.T) {
	a := sym("a")
	for what, d := range map[string]api.Datum{
		"a vector":      vector(repeated(a, mostNodes)...),
		"a list":        list(repeated(a, mostNodes/2)...),
		"a dotted list": dotted(vector(a, a), repeated(a, mostNodes/2-1)...),
		"quotations":    vector(append(repeated(quote(a), 3999), repeated(a, 5)...)...),
		"far too many":  vector(repeated(vector(repeated(a, 1000)...), 1000)...),
	} {
		refused(t, what+" of too many nodes", d)
		refused(t, what+" of too many nodes inside", vector(d))
	}
	for what, around := range map[string]func(d api.Datum) api.Datum{
		"firsts": func(d api.Datum) api.Datum { return list(d) }, "vectors": func(d api.Datum) api.Datum { return vector(d) }, "quotations": quote,
	} {
		d := a
		for range deepest {
			d = around(d)
		}
		refused(t, what+", too deep", d)
		refused(t, what+", too deep as a cdr", pair(a, d))
		for range 3 * deepest {
			d = around(d)
		}
		refused(t, what+", far too deep", d)
	}
}

// R1: lists that go round in a circle, and nodes that stand in many places, are answered like all others.
func TestAnyLists(t *testing.T) {
	for _, kind := range []int{api.Pair, api.Vector} {
		for at := range 2 {
			circle := []api.Datum{sym("quote"), empty()}
			circle[at] = api.Datum{Kind: kind, List: circle}
			refused(t, "a circle", circle[at])
			refused(t, "a circle inside", list(circle...))
		}
	}
	many, text := sym("a"), "a"
	for range 10 {
		many, text = vector(many, many), "#("+text+" "+text+")"
	}
	bothAre(t, many, text)
	for range 100 {
		many = vector(many, many)
	}
	refused(t, "2 to the power 110 nodes", many)
}

// R4: nil and empty lists are the same.
func TestEmptyLists(t *testing.T) {
	for _, d := range someData() {
		want, _ := Write(d)
		shown, _ := Display(d)
		if d.Kind != api.Number {
			d.Num = api.Num{Re: api.Rat{Top: []uint32{}, Bot: []uint32{}}, Im: api.Rat{Top: []uint32{}, Bot: []uint32{}}}
		}
		if len(d.Raw) == 0 {
			d.Raw = []byte{}
		}
		if len(d.List) == 0 {
			d.List = []api.Datum{}
		}
		writes(t, d, want)
		displays(t, d, shown)
	}
	zero := whole(0)
	zero.Num.Re.Top = []uint32{}
	bothAre(t, zero, "0")
}
