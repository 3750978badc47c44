package table

import (
	"math"
	"slices"
	"strings"
	"testing"

	"sextant/api"
)

// unsound are data that are none, each for another reason.
func unsound() []api.Datum {
	deep, wide := sym("a"), vector(repeated(empty(), mostNodes)...)
	for range deepest {
		deep = vector(deep)
	}
	out := []api.Datum{
		{}, {Kind: -1}, {Kind: 12}, {Kind: math.MaxInt}, {Kind: math.MinInt}, {N: 1}, {Text: "a"}, {Num: whole(1).Num},
		{Kind: api.Nil, N: 1}, {Kind: api.Nil, Text: "a"}, {Kind: api.Nil, Raw: []byte{0}}, {Kind: api.Nil, List: []api.Datum{empty()}}, {Kind: api.Nil, Num: whole(0).Num},
		{Kind: api.Void, N: 1}, {Kind: api.Bool, N: 2}, {Kind: api.Char, N: 0xD800}, {Kind: api.Char, N: -1},
		sym("\xed\xa0\x80"), other("\x80"), {Kind: api.Bytes, Text: "a"}, {Kind: api.Vector, Raw: []byte{1}},
		{Kind: api.Pair}, {Kind: api.Pair, List: []api.Datum{empty()}}, {Kind: api.Pair, List: repeated(empty(), 3)}, {Kind: api.Pair, N: 1, List: repeated(empty(), 2)},
		list(repeated(sym("a"), mostNodes/2)...), wide, deep, vector(str("a"), str("\xff")), pair(whole(1), api.Datum{Kind: api.Number}),
	}
	for _, kind := range []int{api.Pair, api.Vector} {
		for at := range 2 {
			circle := []api.Datum{empty(), empty()}
			circle[at] = api.Datum{Kind: kind, List: circle}
			out = append(out, circle[at])
		}
	}
	return slices.Concat(out, unsoundStrings(), unsoundNumbers())
}

// unsoundStrings are such as a table of kind 2 would take for one of its keys, if it did not look at all of them.
func unsoundStrings() []api.Datum {
	out := []api.Datum{
		str("\xff"), str("key 1\xff"), str("\x80key 1"), str("key\xc3 1"), str("\xed\xa0\x80"), str("\xf4\x90\x80\x80"), str(strings.Repeat("a", 9999) + "\xc3"),
		{Kind: api.String, Text: "key 1", N: 1}, {Kind: api.String, Text: "Key 1", Raw: []byte{0}}, {Kind: api.String, Text: "Key 1", List: []api.Datum{empty()}}, {Kind: api.String, Text: "Key 1", Num: whole(0).Num},
		{Kind: api.String, N: -1}, {Kind: api.String, Num: api.Num{Im: api.Rat{Neg: true}}},
	}
	return out
}

// unsoundNumbers are such as a table of kind 3 might take for whole numbers.
func unsoundNumbers() []api.Datum {
	one, none := []uint32{1}, []uint32{}
	zero := api.Rat{Bot: one}
	var out []api.Datum
	for _, re := range []api.Rat{
		{}, {Top: one}, {Top: one, Bot: none}, {Top: one, Bot: []uint32{0}}, {Neg: true, Bot: one}, {Top: none, Bot: []uint32{2}},
		{Top: []uint32{2}, Bot: []uint32{2}}, {Top: []uint32{4}, Bot: []uint32{2}}, {Top: []uint32{2}, Bot: []uint32{4}},
		{Top: []uint32{0}, Bot: one}, {Top: []uint32{1, 0}, Bot: one}, {Top: one, Bot: []uint32{1, 0}},
		{Top: slices.Repeat(one, mostWords+1), Bot: one}, {Top: one, Bot: slices.Repeat(one, mostWords+1)},
	} {
		out = append(out, api.Datum{Kind: api.Number, Num: api.Num{Re: re, Im: zero}})
		out = append(out, api.Datum{Kind: api.Number, Num: api.Num{Re: zero, Im: re}})
	}
	sound := api.Rat{Top: one, Bot: one}
	return append(out,
		api.Datum{Kind: api.Number, Num: api.Num{Re: sound}}, api.Datum{Kind: api.Number, Num: api.Num{Re: sound, Im: api.Rat{Neg: true, Bot: one}}}, api.Datum{Kind: api.Number, Num: api.Num{Im: zero}},
		api.Datum{Kind: api.Number, N: 1, Num: whole(1).Num}, api.Datum{Kind: api.Number, Text: "1", Num: whole(1).Num}, api.Datum{Kind: api.Number, Raw: []byte{1}, Num: whole(1).Num}, api.Datum{Kind: api.Number, List: []api.Datum{empty()}, Num: whole(1).Num},
	)
}

// ofAnotherSort are sound data that are no keys of a table of that kind.
func ofAnotherSort(kind int) []api.Datum {
	var out []api.Datum
	switch kind {
	case 2:
		out = all("() #f #t 0 1 -7 1/2 +i #\\a #\\A a A Key\\x20;1 #vu8() #vu8(97) #vu8(75 101 121) (\"a\") (\"Key 1\") (\"a\" . \"b\") #() #(\"a\") #(\"Key 1\") ''\"a\"")
	case 3:
		out = all("() #f #t 1/2 -1/2 1/3 10/3 21/10 -7/2 1/18446744073709551616 18446744073709551616/3 +i -i 1+i 1-i 10+10i 0+1/2i 1/2+1/2i 1+1/18446744073709551616i #\\1 #\\x1 \"\" \"1\" \"a\" a \\x31; #vu8() #vu8(1) (1) (1 . 2) (1 2) #() #(1) ''1")
	default:
		return nil
	}
	return append(out, void(), other(""), other("Key 1"), other("1"), sym(""))
}

// P13.2: each call refuses a key of another sort, and changes nothing.
func TestAnotherSort(t *testing.T) {
	for _, kind := range kinds() {
		for _, x := range []tried{tableOf(t, kind), filled(t, kind, 10)} {
			x.stays("a key of another sort", func() {
				for _, key := range ofAnotherSort(kind) {
					x.refused(key, api.ErrType)
				}
			})
		}
	}
}

// P13.2: in a table of kind 1 every sound datum is a key.
func TestEverySort(t *testing.T) {
	x := tableOf(t, 1)
	var want []api.Datum
	for _, key := range someData() {
		x.none(key)
		x.set(key, pair(key, key))
		want = append(want, key)
		x.keys(want...)
	}
	for _, key := range someData() {
		x.get(key, pair(key, key))
	}
}

// P13.2: each call refuses what is not sound, as a key, as a value and as both, ahead of all else, and changes nothing.
func TestUnsound(t *testing.T) {
	for _, kind := range kinds() {
		for _, x := range []tried{tableOf(t, kind), filled(t, kind, 10)} {
			x.stays("something that is not sound", func() {
				for _, bad := range unsound() {
					checkUnsound(x, kind, bad)
				}
			})
		}
	}
}

func checkUnsound(x tried, kind int, bad api.Datum) {
	x.t.Helper()
	for _, bad := range []api.Datum{bad, vector(bad), list(sym("a"), bad), pair(bad, sym("a")), pair(str("a"), bad)} {
		x.refused(bad, api.ErrForm)
		x.noSet(bad, bad, api.ErrForm)
		for _, key := range append(ofAnotherSort(kind), keyOf(kind, 3), otherForm(kind, 4)) {
			x.noSet(key, bad, api.ErrForm)
		}
	}
}

// P13.2: a value must be sound whether or not its key is there, or may be.
func TestUnsoundValue(t *testing.T) {
	for _, kind := range kinds() {
		for _, bad := range unsound() {
			x := tableOf(t, kind)
			x.noSet(keyOf(kind, 1), bad, api.ErrForm)
			x.keys()
			x.set(keyOf(kind, 1), sym("value"))
			x.noSet(keyOf(kind, 1), bad, api.ErrForm)
			x.noSet(otherForm(kind, 1), bad, api.ErrForm)
			x.get(keyOf(kind, 1), sym("value"))
			x.keys(keyOf(kind, 1))
		}
	}
}

// P13.2: data at the limits are still keys and values.
func TestLimits(t *testing.T) {
	for _, forms := range great() {
		x := tableOf(t, 1)
		x.set(forms[0], forms[0])
		x.keys(forms[0])
		x.gone(forms[0])
		for _, kind := range []int{2, 3} {
			y := filled(t, kind, 2)
			y.set(keyOf(kind, 1), forms[0])
			y.get(otherForm(kind, 1), forms[0])
		}
	}
}

// checkFull: a table of MaxKeys keys, the n-th of them keyOf that number, takes no other one.
func checkFull(x tried, kind int) {
	x.t.Helper()
	if n := x.x.Len(); n != mostKeys {
		x.t.Fatalf("Len of a full table: %d", n)
	}
	for _, n := range []int{mostKeys, mostKeys + 1, 99999} {
		x.noSet(keyOf(kind, n), whole(n), api.ErrFull)
		x.noSet(otherForm(kind, n), empty(), api.ErrFull)
		x.none(keyOf(kind, n))
	}
	for _, bad := range []api.Datum{{}, str("\xff"), {Kind: api.Number}} {
		x.refused(bad, api.ErrForm)
		x.noSet(keyOf(kind, mostKeys), bad, api.ErrForm)
	}
	for _, key := range ofAnotherSort(kind) {
		x.refused(key, api.ErrType)
	}
}

// P13.2: MaxKeys keys and one more; a key that is there by either form; one that goes makes room for one.
func TestFull(t *testing.T) {
	for _, kind := range []int{1, 2} {
		x := filled(t, kind, mostKeys-1)
		x.set(keyOf(kind, mostKeys-1), whole(mostKeys-1))
		x.stays("a full table", func() { checkFull(x, kind) })
		var want []api.Datum
		for n := range mostKeys {
			want = append(want, keyOf(kind, n))
		}
		for _, n := range []int{0, 1, 2000, mostKeys - 1} {
			x.set(keyOf(kind, n), sym("new"))
			x.set(otherForm(kind, n), sym("newer"))
		}
		x.keys(want...)
		checkFull(x, kind)

		x.gone(keyOf(kind, 2000))
		x.set(keyOf(kind, mostKeys), sym("last"))
		x.noSet(keyOf(kind, 2000), sym("again"), api.ErrFull)
		x.keys(append(slices.Delete(want, 2000, 2001), keyOf(kind, mostKeys))...)
	}
}

// P13.2, P13.3: a copy of a full table is full, on its own; one that was cleared has room again.
func TestFullCopy(t *testing.T) {
	for _, kind := range []int{1, 2} {
		x := filled(t, kind, mostKeys)
		c := x.copy()
		checkFull(c, kind)
		c.gone(keyOf(kind, 0))
		c.set(keyOf(kind, mostKeys), sym("last"))
		checkFull(x, kind)
		c.x.Clear()
		c.keys()
		for n := range mostKeys {
			if e := c.x.Set(keyOf(kind, n), empty()); e != api.OK {
				t.Fatalf("Set of key %d behind Clear: error %d", n, e)
			}
		}
		checkFull(c, kind)
	}
}

// P13.2: keys that went are not counted: more of them than MaxKeys come and go.
func TestManyComeAndGo(t *testing.T) {
	for _, kind := range []int{1, 2} {
		x := filled(t, kind, 3)
		for n := range 3 * mostKeys {
			key := keyOf(kind, 3+n)
			if e := x.x.Set(key, empty()); e != api.OK {
				t.Fatalf("Set of key %d: error %d", n, e)
			}
			if e := x.x.Delete(key); e != api.OK {
				t.Fatalf("Delete of key %d: error %d", n, e)
			}
		}
		x.keys(keysOf(kind, 0, 1, 2)...)
	}
	x := tableOf(t, 3)
	for n := range 3 * mostKeys {
		x.set(whole(n), whole(n))
	}
	x.keys(keysOf(3, 0, 1, 2, 3, 4, 5, 6, 7, 8, 9)...)
}
