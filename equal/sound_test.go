package equal

import (
	"math"
	"slices"
	"strconv"
	"testing"

	"sextant/api"
)

// isNothing: with such a datum on one side or on both, Cmp is 0 and Equal does not hold; and its Hash is 0.
func isNothing(t *testing.T, what string, bad api.Datum) {
	t.Helper()
	for _, good := range []api.Datum{empty(), whole(1), list(sym("a")), vector(empty()), other("\U0010ffff")} {
		notCompared(t, what+" with one that is sound", bad, good)
	}
	notCompared(t, what+" with itself", bad, bad)
	notCompared(t, what+" with nothing", bad, api.Datum{})
	if got := Hash(bad); got != 0 {
		t.Errorf("%s: Hash is %d", what, got)
	}
}

func notCompared(t *testing.T, what string, a, b api.Datum) {
	t.Helper()
	if x, y := Cmp(a, b), Cmp(b, a); x != 0 || y != 0 {
		t.Errorf("%s: Cmp is %d, and %d with the sides turned", what, x, y)
	}
	if Equal(a, b) || Equal(b, a) {
		t.Errorf("%s: Equal", what)
	}
}

// places are the datum itself and others that have it inside, once each: in every kind of list, and deep down. Of two that are in the same place, the items ahead are the same.
func places(d api.Datum) []api.Datum {
	deep := vector(d)
	for range 60 {
		deep = pair(empty(), vector(sym("a"), deep, sym("a")))
	}
	return []api.Datum{d, vector(d), vector(empty(), d, empty()), list(d), pair(sym("a"), d), list(sym("a"), vector(empty(), d)), dotted(d, repeated(sym("a"), 200)...), deep}
}

// isNothingAnywhere: so it is at the top and inside others, and against a sound datum in its place. alike are some that differ from it as little as can be.
func isNothingAnywhere(t *testing.T, what string, bad api.Datum, alike ...api.Datum) {
	t.Helper()
	wholes := places(bad)
	for i, whole := range wholes {
		isNothing(t, what, whole)
		notCompared(t, what+", in two places", whole, wholes[(i+3)%len(wholes)])
		for _, good := range append(alike, empty(), other("a")) {
			notCompared(t, what+" in the place of one that is sound", whole, places(good)[i])
		}
	}
	// What is ahead, how many there are, and the kind do not tell, if what is behind them is not sound.
	notCompared(t, what+" behind what differs", vector(whole(1), bad), vector(whole(2), empty()))
	notCompared(t, what+" behind what differs", pair(whole(2), bad), pair(whole(1), empty()))
	notCompared(t, what+" behind what differs, on both sides", pair(whole(2), bad), pair(whole(1), bad))
	notCompared(t, what+" in a shorter vector", vector(bad), vector(empty(), empty()))
	notCompared(t, what+" in a longer vector", vector(empty(), bad), vector(empty()))
}

// P10.1, P10.2, P10.3: a field that the kind does not name is not empty, each for itself.
func TestUnsoundFields(t *testing.T) {
	named := map[int]string{
		api.Bool: "N", api.Number: "Num", api.Char: "N", api.String: "Text", api.Symbol: "Text", api.Other: "Text", api.Bytes: "Raw", api.Pair: "List", api.Vector: "List",
	}
	for _, filled := range []struct {
		field, what string
		fill        func(d *api.Datum)
	}{
		{"N", "1", func(d *api.Datum) { d.N = 1 }},
		{"N", "-1", func(d *api.Datum) { d.N = -1 }},
		{"Num", "Re.Neg", func(d *api.Datum) { d.Num.Re.Neg = true }},
		{"Num", "Re.Top", func(d *api.Datum) { d.Num.Re.Top = []uint32{1} }},
		{"Num", "Re.Bot", func(d *api.Datum) { d.Num.Re.Bot = []uint32{1} }},
		{"Num", "Im.Neg", func(d *api.Datum) { d.Num.Im.Neg = true }},
		{"Num", "Im.Top", func(d *api.Datum) { d.Num.Im.Top = []uint32{0} }},
		{"Num", "Im.Bot", func(d *api.Datum) { d.Num.Im.Bot = []uint32{1} }},
		{"Num", "a 0", func(d *api.Datum) { d.Num = whole(0).Num }},
		{"Text", "a", func(d *api.Datum) { d.Text = "a" }},
		{"Raw", "a byte 0", func(d *api.Datum) { d.Raw = []byte{0} }},
		{"List", "one", func(d *api.Datum) { d.List = []api.Datum{empty()} }},
		{"List", "two", func(d *api.Datum) { d.List = []api.Datum{empty(), empty()} }},
	} {
		for _, d := range someData() {
			if bad := d; named[d.Kind] != filled.field {
				filled.fill(&bad)
				isNothingAnywhere(t, filled.field+", "+filled.what+", of kind "+strconv.Itoa(d.Kind), bad, d)
			}
		}
	}
}

// P10.1, P10.2, P10.3: no kind, and a Bool, a Char, a Pair or a Text that is not as its kind asks.
func TestUnsoundKinds(t *testing.T) {
	for _, kind := range []int{0, -1, 12, 13, 255, 256 + api.Nil, 1<<32 + api.Nil, math.MaxInt, math.MinInt} {
		isNothingAnywhere(t, "no kind", api.Datum{Kind: kind})
	}
	for _, n := range []int{2, -1, 256, 1 << 32, 1<<32 + 1, math.MaxInt, math.MinInt} {
		isNothingAnywhere(t, "a Bool", boolean(n), boolean(0), boolean(1))
	}
	for _, n := range []int{-1, 0xD800, 0xDBFF, 0xDC00, 0xDFFF, 0x110000, 1<<32 + 'a', -(1 << 32) + 'a', 1 << 31, math.MaxInt, math.MinInt} {
		isNothingAnywhere(t, "a Char", api.Datum{Kind: api.Char, N: n}, char('a'))
	}
	for _, n := range []int{0, 1, 3, 4} {
		isNothingAnywhere(t, "a Pair", api.Datum{Kind: api.Pair, List: repeated(empty(), n)}, pair(empty(), empty()))
	}
	for _, kind := range []int{api.String, api.Symbol, api.Other} {
		for _, text := range []string{"\xff", "a\x80b", "\xc3", "a\xe2\x80", "\xed\xa0\x80", "\xf4\x90\x80\x80", "\xc0\x80"} {
			isNothingAnywhere(t, "a Text with a bad byte", api.Datum{Kind: kind, Text: text}, api.Datum{Kind: kind, Text: "a"}, api.Datum{Kind: kind, Text: "\ufffd"})
		}
	}
}

// P10.1, P10.2, P10.3: a Number of which a part is not sound by chapter 3, each part for each reason.
func TestUnsoundNumbers(t *testing.T) {
	one := []uint32{1}
	isNothingAnywhere(t, "a number without words", api.Datum{Kind: api.Number}, whole(0))
	for what, bad := range map[string]api.Rat{
		"no words":                {},
		"over 0":                  {Top: one},
		"over a word 0":           {Top: one, Bot: []uint32{0}},
		"0 over 2":                {Bot: []uint32{2}},
		"0 with a sign":           {Neg: true, Bot: one},
		"not in its lowest terms": {Top: []uint32{2}, Bot: []uint32{4}},
		"1 as 2 over 2":           {Top: []uint32{2}, Bot: []uint32{2}},
		"a Top that ends with 0":  {Top: []uint32{1, 0}, Bot: one},
		"a Bot that ends with 0":  {Top: one, Bot: []uint32{1, 0}},
		"a Top of too many words": {Top: slices.Repeat([]uint32{1}, mostWords+1), Bot: one},
		"a Bot of too many words": {Top: one, Bot: slices.Repeat([]uint32{1}, mostWords+1)},
	} {
		for _, good := range []api.Datum{whole(0), whole(1), ratio(-1, 2)} {
			isNothingAnywhere(t, what+" as Re", api.Datum{Kind: api.Number, Num: api.Num{Re: bad, Im: good.Num.Re}}, good)
			isNothingAnywhere(t, what+" as Im", api.Datum{Kind: api.Number, Num: api.Num{Re: good.Num.Re, Im: bad}}, good)
		}
		isNothingAnywhere(t, what+" as both", api.Datum{Kind: api.Number, Num: api.Num{Re: bad, Im: bad}}, whole(1))
	}
}

// R1: lists that go round in a circle, and nodes that stand in many places, are answered like all others.
func TestAnyLists(t *testing.T) {
	for _, kind := range []int{api.Pair, api.Vector} {
		for at := range 2 {
			circle := []api.Datum{empty(), empty()}
			circle[at] = api.Datum{Kind: kind, List: circle}
			isNothing(t, "a circle", circle[at])
			isNothing(t, "a circle inside", list(circle...))
		}
	}
	many, greater := sym("a"), sym("b")
	for range 10 {
		many, greater = vector(many, many), vector(many, greater)
	}
	rise(t, many, greater)
	for range 100 {
		many = vector(many, many)
	}
	isNothing(t, "2 to the power 110 nodes", many)
}
