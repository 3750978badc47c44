package datum

import (
	"math"
	"slices"
	"strconv"
	"testing"

	"sextant/api"
)

// soundOnes has one or more data of each kind.
func soundOnes() []api.Datum {
	return []api.Datum{
		empty(), {Kind: api.Void}, boolean(0), boolean(1), whole(0), whole(-7), complexNumber(1, 3, -2, 1),
		char(0), char('a'), char(0xD7FF), char(0xE000), char(0xFFFD), char(0x10FFFF),
		str(""), str("a\x00é\ufffd\U0001f600"), sym(""), sym("a b"), {Kind: api.Other}, {Kind: api.Other, Text: "procedure"},
		raw(), raw(0, 255), pair(empty(), empty()), list(whole(1), sym("a")), dotted(str("b"), whole(1)), vector(), vector(empty(), vector(pair(sym("a"), raw(1)))),
	}
}

// P8.1: each kind as it should be, alone and inside others.
func TestSoundKinds(t *testing.T) {
	for _, d := range soundOnes() {
		for _, whole := range []api.Datum{d, vector(d), pair(d, empty()), pair(empty(), d), list(sym("a"), vector(empty(), d))} {
			if !Sound(whole) {
				t.Errorf("%s, kind %d: not sound", show(whole), d.Kind)
			}
		}
	}
}

// unsound: such a datum is none, alone or inside others.
func unsound(t *testing.T, what string, d api.Datum) {
	t.Helper()
	for _, whole := range []api.Datum{d, vector(d), vector(empty(), d, empty()), pair(d, empty()), pair(empty(), d), list(sym("a"), vector(empty(), d))} {
		if Sound(whole) {
			t.Errorf("%s: sound in a whole of kind %d", what, whole.Kind)
		}
	}
}

// P8.1: of each kind, each field that it does not name must be zero, each for itself.
func TestUnsoundFields(t *testing.T) {
	named := map[int]string{
		api.Nil: "", api.Void: "", api.Bool: "N", api.Number: "Num", api.Char: "N", api.String: "Text", api.Symbol: "Text", api.Other: "Text",
		api.Bytes: "Raw", api.Pair: "List", api.Vector: "List",
	}
	for _, filled := range []struct {
		field, what string
		fill        func(d *api.Datum)
	}{
		{"N", "1", func(d *api.Datum) { d.N = 1 }},
		{"N", "-1", func(d *api.Datum) { d.N = -1 }},
		{"Num", "Re.Neg", func(d *api.Datum) { d.Num.Re.Neg = true }},
		{"Num", "Re.Top", func(d *api.Datum) { d.Num.Re.Top = []uint32{1} }},
		{"Num", "Re.Bot", func(d *api.Datum) { d.Num.Re.Bot = []uint32{1} }},
		{"Num", "Im.Neg", func(d *api.Datum) { d.Num.Im.Neg = true }},
		{"Num", "Im.Top", func(d *api.Datum) { d.Num.Im.Top = []uint32{0} }},
		{"Num", "Im.Bot", func(d *api.Datum) { d.Num.Im.Bot = []uint32{1} }},
		{"Num", "a 0", func(d *api.Datum) { d.Num = whole(0).Num }},
		{"Text", "a", func(d *api.Datum) { d.Text = "a" }},
		{"Raw", "a byte 0", func(d *api.Datum) { d.Raw = []byte{0} }},
		{"List", "one", func(d *api.Datum) { d.List = []api.Datum{empty()} }},
		{"List", "two", func(d *api.Datum) { d.List = []api.Datum{empty(), empty()} }},
	} {
		for _, d := range soundOnes() {
			if named[d.Kind] != filled.field {
				filled.fill(&d)
				unsound(t, filled.field+", "+filled.what+", of kind "+strconv.Itoa(d.Kind), d)
			}
		}
	}
}

// P8.1: what is no kind is no datum, the kind 0 of nothing among them.
func TestUnsoundKinds(t *testing.T) {
	for _, kind := range []int{0, -1, 12, 13, 255, 256 + api.Nil, 1<<32 + api.Nil, math.MaxInt, math.MinInt} {
		unsound(t, "no kind", api.Datum{Kind: kind})
	}
	for kind := range 13 {
		if got, want := Sound(api.Datum{Kind: kind}), kind != 0 && kind != api.Number && kind != api.Pair && kind != 12; got != want {
			t.Errorf("kind %d alone: %v", kind, got)
		}
	}
}

// P8.1: a Bool and a Char of which N is not theirs.
func TestUnsoundN(t *testing.T) {
	for _, n := range []int{2, -1, 3, 256, 1 << 32, 1<<32 + 1, math.MaxInt, math.MinInt} {
		unsound(t, "Bool", boolean(n))
	}
	for _, n := range []int{-1, 0xD800, 0xDBFF, 0xDC00, 0xDFFF, 0x110000, 1<<32 + 'a', -(1 << 32) + 'a', 1 << 31, math.MaxInt, math.MinInt} {
		unsound(t, "Char", api.Datum{Kind: api.Char, N: n})
	}
}

// P8.1: a Number of which Num is not sound by chapter 3.
func TestUnsoundNumbers(t *testing.T) {
	unsound(t, "a number without words", api.Datum{Kind: api.Number})
	for what, change := range map[string]func(n *api.Num){
		"not in its lowest terms":   func(n *api.Num) { n.Re = fraction(2, 4) },
		"over 0":                    func(n *api.Num) { n.Im.Bot = nil },
		"0 with a sign":             func(n *api.Num) { n.Im.Neg = true },
		"a word 0 at the end":       func(n *api.Num) { n.Re.Top = []uint32{1, 0} },
		"too many words":            func(n *api.Num) { n.Re.Top = slices.Repeat([]uint32{1}, 513) },
		"too many words at the Bot": func(n *api.Num) { n.Re.Bot = slices.Repeat([]uint32{1}, 513) },
	} {
		d := whole(1)
		change(&d.Num)
		unsound(t, what, d)
	}
	long := whole(1)
	long.Num.Re.Top = slices.Repeat([]uint32{1}, 512)
	if !Sound(long) {
		t.Error("a number of 512 words is not sound")
	}
}

// P8.1: a Pair has two, and a Text has no bad byte.
func TestUnsoundPairsAndTexts(t *testing.T) {
	for _, n := range []int{0, 1, 3, 4} {
		unsound(t, "a Pair", api.Datum{Kind: api.Pair, List: empties(n)})
	}
	for _, kind := range []int{api.String, api.Symbol, api.Other} {
		for _, text := range []string{"\xff", "a\x80b", "\xc3", "a\xe2\x80", "\xed\xa0\x80", "\xf4\x90\x80\x80", "\xc0\x80"} {
			unsound(t, "a Text with a bad byte", api.Datum{Kind: kind, Text: text})
		}
	}
}

// P8.1: MaxNodes nodes are a datum, and one more is none, in whatever lists they stand.
func TestSoundNodes(t *testing.T) {
	items := func(n int) []api.Datum { return slices.Repeat([]api.Datum{sym("a")}, n) }
	// A list of n has a pair and an item each, and its end.
	for what, of := range map[string]func(nodes int) api.Datum{
		"a vector":           func(nodes int) api.Datum { return vector(items(nodes - 1)...) },
		"a list in a vector": func(nodes int) api.Datum { return vector(list(items((nodes-3)/2)...), vector(items((nodes-3)%2)...)) },
		"vectors in a vector": func(nodes int) api.Datum {
			return vector(append(slices.Repeat([]api.Datum{vector(items(99)...)}, 199), items(nodes-1-19900)...)...)
		},
		"a dotted list":         func(nodes int) api.Datum { return dotted(vector(items((nodes-1)%2)...), items((nodes-1)/2)...) },
		"a vector ahead":        func(nodes int) api.Datum { return pair(vector(items(nodes-3)...), empty()) },
		"a vector at its end":   func(nodes int) api.Datum { return pair(empty(), vector(items(nodes-3)...)) },
		"a list of empty lists": func(nodes int) api.Datum { return pair(vector(items((nodes-3)%2)...), list(empties((nodes-3)/2)...)) },
	} {
		for nodes, want := range map[int]bool{mostNodes - 1: true, mostNodes: true, mostNodes + 1: false, mostNodes + 2: false, 3 * mostNodes: false} {
			d := of(nodes)
			if got := count(d); got != nodes {
				t.Fatalf("%s: the test has laid %d nodes, not %d", what, got, nodes)
			}
			if Sound(d) != want {
				t.Errorf("%s of %d nodes: %v", what, nodes, !want)
			}
		}
	}
}

func empties(n int) []api.Datum { return slices.Repeat([]api.Datum{empty()}, n) }

// count is how many nodes a datum has.
func count(d api.Datum) int {
	n := 1
	for _, item := range d.List {
		n += count(item)
	}
	return n
}

// depth is the most nodes on a way that are counted: from the leaves up, where the program goes down.
func depth(d api.Datum) int {
	most := 1
	for i, item := range d.List {
		below := depth(item) + 1
		if d.Kind == api.Pair && i == 1 {
			below--
		}
		most = max(most, below)
	}
	return most
}

// P8.1: MaxDepth nodes on a way are a datum, and one more is none, by pairs' firsts, by vectors, and by both with seconds between.
func TestSoundDepth(t *testing.T) {
	for what, around := range map[string]func(d api.Datum) api.Datum{
		"firsts":              func(d api.Datum) api.Datum { return pair(d, empty()) },
		"firsts of dotted":    func(d api.Datum) api.Datum { return pair(d, sym("a")) },
		"vectors":             func(d api.Datum) api.Datum { return vector(d) },
		"vectors' last items": func(d api.Datum) api.Datum { return vector(empty(), empty(), d) },
		"second items":        func(d api.Datum) api.Datum { return list(sym("quote"), d) },
		"vectors at an end":   func(d api.Datum) api.Datum { return pair(empty(), vector(d)) },
	} {
		d := sym("a")
		for n := 1; n <= deepest+2; n++ {
			if what != "vectors at an end" && depth(d) != n {
				t.Fatalf("%s: the test has laid %d, not %d", what, depth(d), n)
			}
			if got, want := Sound(d), depth(d) <= deepest; got != want {
				t.Errorf("%s, %d deep: %v", what, depth(d), got)
			}
			d = around(d)
		}
	}
}

// P8.1: seconds are not counted, however many there are on a way.
func TestSoundLongLists(t *testing.T) {
	atoms := slices.Repeat([]api.Datum{sym("a")}, 9999)
	if !Sound(list(atoms...)) || !Sound(dotted(sym("a"), atoms...)) {
		t.Error("a long list is not sound")
	}
	inner := sym("a")
	for range deepest - 2 {
		inner = vector(inner)
	}
	if d := dotted(pair(inner, empty()), atoms[:1000]...); depth(d) != deepest || !Sound(d) {
		t.Error("a list with a deep item at its end is not sound")
	}
	if d := dotted(pair(vector(inner), empty()), atoms[:1000]...); Sound(d) {
		t.Error("a list with an item that is too deep at its end is sound")
	}
	if d := dotted(vector(inner), atoms[:1000]...); depth(d) != deepest || !Sound(d) {
		t.Error("a dotted list with a deep end is not sound")
	}
	if d := dotted(vector(vector(vector(inner))), atoms[:1000]...); Sound(d) {
		t.Error("a dotted list with an end that is too deep is sound")
	}
}

// R1: nil and empty lists are the same, and lists that go round in a circle, or are there many times, are answered like all others.
func TestSoundAnyLists(t *testing.T) {
	void := api.Num{Re: api.Rat{Top: []uint32{}, Bot: []uint32{}}, Im: api.Rat{Top: []uint32{}, Bot: []uint32{}}}
	for _, d := range soundOnes() {
		if d.Kind != api.Number {
			d.Num = void
		}
		if len(d.Raw) == 0 {
			d.Raw = []byte{}
		}
		if len(d.List) == 0 {
			d.List = []api.Datum{}
		}
		if !Sound(d) {
			t.Errorf("%s with empty lists is not sound", show(d))
		}
	}
	zero := whole(0)
	zero.Num.Re.Top, zero.Num.Im.Top = []uint32{}, nil
	if !Sound(zero) {
		t.Error("0 with an empty list is not sound")
	}
	for _, kind := range []int{api.Pair, api.Vector} {
		for _, at := range []int{0, 1} {
			circle := []api.Datum{empty(), empty()}
			circle[at] = api.Datum{Kind: kind, List: circle}
			if Sound(circle[at]) {
				t.Errorf("a circle by kind %d at %d is sound", kind, at)
			}
		}
	}
	many := sym("a")
	for range 100 {
		many = vector(many, many)
	}
	if Sound(many) {
		t.Error("2 to the power 100 nodes are sound")
	}
	few := sym("a")
	for range 10 {
		few = vector(few, few)
	}
	if !Sound(few) {
		t.Error("a list that is there many times is not sound")
	}
}
