package table

import (
	"bytes"
	"math/big"
	"slices"
	"strconv"
	"strings"
	"testing"

	"sextant/api"
	"sextant/datum"
	"sextant/write"
)

// The limits written out, so that the tests do not follow a slip of the program's.
const (
	mostKeys  = 4096
	mostNodes = 20000
	deepest   = 200
	mostWords = 512
)

// kinds are all kinds of a table.
func kinds() []int { return []int{1, 2, 3} }

func empty() api.Datum { return api.Datum{Kind: api.Nil} }

func void() api.Datum { return api.Datum{Kind: api.Void} }

func other(text string) api.Datum { return api.Datum{Kind: api.Other, Text: text} }

func str(text string) api.Datum { return api.Datum{Kind: api.String, Text: text} }

func sym(text string) api.Datum { return api.Datum{Kind: api.Symbol, Text: text} }

func vector(items ...api.Datum) api.Datum { return api.Datum{Kind: api.Vector, List: items} }

func pair(a, b api.Datum) api.Datum {
	return api.Datum{Kind: api.Pair, List: []api.Datum{a, b}}
}

func list(items ...api.Datum) api.Datum {
	out := empty()
	for _, item := range slices.Backward(items) {
		out = pair(item, out)
	}
	return out
}

// repeated is that datum so many times, as items.
func repeated(d api.Datum, n int) []api.Datum { return slices.Repeat([]api.Datum{d}, n) }

func whole(n int) api.Datum { return number(big.NewInt(int64(n))) }

// number is a whole number of any length.
func number(n *big.Int) api.Datum {
	re := api.Rat{Neg: n.Sign() < 0, Top: wordsOf(n), Bot: []uint32{1}}
	return api.Datum{Kind: api.Number, Num: api.Num{Re: re, Im: api.Rat{Bot: []uint32{1}}}}
}

func wordsOf(n *big.Int) []uint32 {
	var out []uint32
	for rest := new(big.Int).Abs(n); rest.Sign() > 0; rest.Rsh(rest, 32) {
		out = append(out, uint32(rest.Uint64()))
	}
	return out
}

// pow2 is 2 to the power n.
func pow2(n int) *big.Int { return new(big.Int).Lsh(big.NewInt(1), uint(n)) }

// all are the data of a text.
func all(s string) []api.Datum {
	data, _, e := datum.All(s)
	if e != api.OK {
		panic(s)
	}
	return data
}

// read is the one datum of a text.
func read(s string) api.Datum {
	data := all(s)
	if len(data) != 1 {
		panic(s)
	}
	return data[0]
}

// someData are one or more sound data of each kind.
func someData() []api.Datum {
	data := all("() #f #t -7 -1i 0 +1i 1/3 1 1+2/3i #\\x0 #\\a #\\xe000 \"\" \"a\" \"aé\" a\\x20;b b #vu8() #vu8(0) #vu8(0 255) (()) (1 a) (\"a\" . 1) #() #(()) #(() #((a . #vu8(1))))")
	return append(data, void(), other(""), other("procedure"))
}

// keyOf is the n-th of keys that are not one, in a table of that kind.
func keyOf(kind, n int) api.Datum {
	switch kind {
	case 1:
		return list(sym("key"), whole(n))
	case 2:
		return str("Key " + strconv.Itoa(n))
	}
	if n > 9 {
		panic("there are ten keys by their rests")
	}
	return whole(n)
}

// otherForm is a key that is one with keyOf and, where there is such a one, told otherwise.
func otherForm(kind, n int) api.Datum {
	switch kind {
	case 1:
		return keyOf(1, n)
	case 2:
		return str("kEY " + strconv.Itoa(n))
	}
	return whole(n - 770)
}

// keysOf are the keys of those numbers.
func keysOf(kind int, numbers ...int) []api.Datum {
	var out []api.Datum
	for _, n := range numbers {
		out = append(out, keyOf(kind, n))
	}
	return out
}

// same holds all fields of two data against each other; nil and empty lists are the same.
func same(a, b api.Datum) bool {
	return a.Kind == b.Kind && a.N == b.N && sameRat(a.Num.Re, b.Num.Re) && sameRat(a.Num.Im, b.Num.Im) &&
		a.Text == b.Text && bytes.Equal(a.Raw, b.Raw) && slices.EqualFunc(a.List, b.List, same)
}

func sameRat(a, b api.Rat) bool {
	return a.Neg == b.Neg && slices.Equal(a.Top, b.Top) && slices.Equal(a.Bot, b.Bot)
}

// brief is a datum's text, cut short, for what a test says.
func brief(d api.Datum) string {
	s, e := write.Write(d)
	if e != api.OK {
		return "something that is not sound, of kind " + strconv.Itoa(d.Kind)
	}
	if len(s) > 80 {
		return strings.ToValidUTF8(s[:60], "") + ".. of " + strconv.Itoa(len(s)) + " bytes"
	}
	return s
}

func briefAll(data []api.Datum) string {
	var out []string
	for _, d := range data[:min(len(data), 12)] {
		out = append(out, brief(d))
	}
	return strconv.Itoa(len(data)) + ": " + strings.Join(out, " ")
}

// tried is a table whose calls are held against what a test says that they answer.
type tried struct {
	t *testing.T
	x *Table
}

func tableOf(t *testing.T, kind int) tried {
	t.Helper()
	x, e := New(kind)
	if e != api.OK || x == nil {
		t.Fatalf("New(%d): error %d", kind, e)
	}
	return tried{t, x}
}

// filled is a table in which keyOf of 0, 1, .. stand, each with its number as its value.
func filled(t *testing.T, kind, count int) tried {
	t.Helper()
	x := tableOf(t, kind)
	for n := range count {
		if e := x.x.Set(keyOf(kind, n), whole(n)); e != api.OK {
			t.Fatalf("Set of key %d: error %d", n, e)
		}
	}
	return x
}

// set: the key's value, as Get tells.
func (x tried) set(key, value api.Datum) {
	x.t.Helper()
	if e := x.x.Set(key, value); e != api.OK {
		x.t.Errorf("Set(%s, %s): error %d", brief(key), brief(value), e)
	}
	x.get(key, value)
}

func (x tried) noSet(key, value api.Datum, want api.Errno) {
	x.t.Helper()
	if e := x.x.Set(key, value); e != want {
		x.t.Errorf("Set(%s, %s): error %d; want error %d", brief(key), brief(value), e, want)
	}
}

func (x tried) get(key, want api.Datum) {
	x.t.Helper()
	if got, e := x.x.Get(key); e != api.OK || !same(got, want) {
		x.t.Errorf("Get(%s): %s, error %d; want %s", brief(key), brief(got), e, brief(want))
	}
}

func (x tried) noGet(key api.Datum, want api.Errno) {
	x.t.Helper()
	if got, e := x.x.Get(key); e != want || !same(got, api.Datum{}) {
		x.t.Errorf("Get(%s): %s, error %d; want error %d", brief(key), brief(got), e, want)
	}
}

// gone: the key goes, as Get and Delete tell.
func (x tried) gone(key api.Datum) {
	x.t.Helper()
	if e := x.x.Delete(key); e != api.OK {
		x.t.Errorf("Delete(%s): error %d", brief(key), e)
	}
	x.none(key)
}

func (x tried) noDelete(key api.Datum, want api.Errno) {
	x.t.Helper()
	if e := x.x.Delete(key); e != want {
		x.t.Errorf("Delete(%s): error %d; want error %d", brief(key), e, want)
	}
}

// none: there is no such key.
func (x tried) none(key api.Datum) {
	x.t.Helper()
	x.noGet(key, api.ErrNone)
	x.noDelete(key, api.ErrNone)
}

// refused: each call with that key answers that error, whatever sound value comes with it.
func (x tried) refused(key api.Datum, want api.Errno) {
	x.t.Helper()
	x.noSet(key, sym("value"), want)
	x.noSet(key, empty(), want)
	x.noGet(key, want)
	x.noDelete(key, want)
}

// keys: these are all, in this order and of these forms.
func (x tried) keys(want ...api.Datum) {
	x.t.Helper()
	if got := x.x.Keys(); !slices.EqualFunc(got, want, same) {
		x.t.Errorf("Keys are %s; want %s", briefAll(got), briefAll(want))
	}
	if n := x.x.Len(); n != len(want) {
		x.t.Errorf("Len: %d; want %d", n, len(want))
	}
}

func (x tried) copy() tried {
	x.t.Helper()
	c := x.x.Copy()
	if c == nil || c == x.x {
		x.t.Fatalf("Copy is nil, or the table itself")
	}
	return tried{x.t, c}
}

// row is a key with its value.
type row struct{ key, value api.Datum }

// rows are all that the calls tell of a table.
func (x tried) rows() []row {
	x.t.Helper()
	var out []row
	for _, key := range x.x.Keys() {
		value, e := x.x.Get(key)
		if e != api.OK {
			x.t.Fatalf("Get of %s, which is among the keys: error %d", brief(key), e)
		}
		out = append(out, row{key, value})
	}
	if n := x.x.Len(); n != len(out) {
		x.t.Fatalf("Len: %d; there are %d keys", n, len(out))
	}
	return out
}

func sameRows(a, b []row) bool {
	return slices.EqualFunc(a, b, func(a, b row) bool { return same(a.key, b.key) && same(a.value, b.value) })
}

// stays: what is done changes nothing that the calls tell.
func (x tried) stays(what string, do func()) {
	x.t.Helper()
	before := x.rows()
	do()
	if after := x.rows(); !sameRows(before, after) {
		x.t.Errorf("%s has changed the table of %d keys to one of %d, or their values", what, len(before), len(after))
	}
}
