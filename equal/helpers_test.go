package equal

import (
	"bytes"
	"math/big"
	"slices"
	"strconv"
	"strings"
	"testing"

	"sextant/api"
	"sextant/write"
)

// The limits written out, so that the tests do not follow a slip of the program's.
const (
	mostNodes = 20000
	deepest   = 200
	mostWords = 512
)

func empty() api.Datum { return api.Datum{Kind: api.Nil} }

func void() api.Datum { return api.Datum{Kind: api.Void} }

func other(text string) api.Datum { return api.Datum{Kind: api.Other, Text: text} }

func boolean(n int) api.Datum { return api.Datum{Kind: api.Bool, N: n} }

func char(c rune) api.Datum { return api.Datum{Kind: api.Char, N: int(c)} }

func str(text string) api.Datum { return api.Datum{Kind: api.String, Text: text} }

func sym(text string) api.Datum { return api.Datum{Kind: api.Symbol, Text: text} }

func raw(b ...byte) api.Datum { return api.Datum{Kind: api.Bytes, Raw: b} }

func vector(items ...api.Datum) api.Datum { return api.Datum{Kind: api.Vector, List: items} }

func pair(a, b api.Datum) api.Datum {
	return api.Datum{Kind: api.Pair, List: []api.Datum{a, b}}
}

func list(items ...api.Datum) api.Datum { return dotted(empty(), items...) }

// dotted is a list that ends with the tail.
func dotted(tail api.Datum, items ...api.Datum) api.Datum {
	for _, item := range slices.Backward(items) {
		tail = pair(item, tail)
	}
	return tail
}

// repeated is that datum so many times, as items.
func repeated(d api.Datum, n int) []api.Datum { return slices.Repeat([]api.Datum{d}, n) }

func whole(n int64) api.Datum { return number(big.NewRat(n, 1), new(big.Rat)) }

func ratio(top, bot int64) api.Datum { return number(big.NewRat(top, bot), new(big.Rat)) }

// complexNumber is a + b i.
func complexNumber(a, b int64) api.Datum { return number(big.NewRat(a, 1), big.NewRat(b, 1)) }

func number(re, im *big.Rat) api.Datum {
	return api.Datum{Kind: api.Number, Num: api.Num{Re: ratOf(re), Im: ratOf(im)}}
}

func ratOf(r *big.Rat) api.Rat {
	return api.Rat{Neg: r.Sign() < 0, Top: wordsOf(r.Num()), Bot: wordsOf(r.Denom())}
}

func wordsOf(n *big.Int) []uint32 {
	var out []uint32
	for i, b := range slices.Backward(n.Bytes()) {
		at := len(n.Bytes()) - 1 - i
		if at%4 == 0 {
			out = append(out, 0)
		}
		out[at/4] |= uint32(b) << (8 * (at % 4))
	}
	return out
}

// rational reads a fraction.
func rational(s string) *big.Rat {
	r, ok := new(big.Rat).SetString(s)
	if !ok {
		panic(s)
	}
	return r
}

// pow2 is 2 to the power n.
func pow2(n int) *big.Int { return new(big.Int).Lsh(big.NewInt(1), uint(n)) }

// apart is the same tree, made of other memory; its empty lists are nil.
func apart(d api.Datum) api.Datum {
	re, im := d.Num.Re, d.Num.Im
	out := api.Datum{Kind: d.Kind, N: d.N, Text: strings.Clone(d.Text), Raw: append([]byte(nil), d.Raw...)}
	out.Num.Re = api.Rat{Neg: re.Neg, Top: append([]uint32(nil), re.Top...), Bot: append([]uint32(nil), re.Bot...)}
	out.Num.Im = api.Rat{Neg: im.Neg, Top: append([]uint32(nil), im.Top...), Bot: append([]uint32(nil), im.Bot...)}
	for _, item := range d.List {
		out.List = append(out.List, apart(item))
	}
	return out
}

// same holds all fields of two data against each other; nil and empty lists are the same.
func same(a, b api.Datum) bool {
	return a.Kind == b.Kind && a.N == b.N && sameRat(a.Num.Re, b.Num.Re) && sameRat(a.Num.Im, b.Num.Im) &&
		a.Text == b.Text && bytes.Equal(a.Raw, b.Raw) && slices.EqualFunc(a.List, b.List, same)
}

func sameRat(a, b api.Rat) bool {
	return a.Neg == b.Neg && slices.Equal(a.Top, b.Top) && slices.Equal(a.Bot, b.Bot)
}

// brief is a datum's text, cut short, for what a test says.
func brief(d api.Datum) string {
	s, e := write.Write(d)
	if e != api.OK {
		return "something that is not sound, of kind " + strconv.Itoa(d.Kind)
	}
	if len(s) > 80 {
		return strings.ToValidUTF8(s[:60], "") + ".. of " + strconv.Itoa(len(s)) + " bytes"
	}
	return s
}

// compares: Cmp answers that, its opposite with the sides turned, and Equal holds just where it is 0.
func compares(t *testing.T, a, b api.Datum, want int) {
	t.Helper()
	if got := Cmp(a, b); got != want {
		t.Errorf("Cmp(%s, %s) is %d, want %d", brief(a), brief(b), got, want)
	}
	if got := Cmp(b, a); got != -want {
		t.Errorf("Cmp(%s, %s) is %d, want %d", brief(b), brief(a), got, -want)
	}
	if got := Equal(a, b); got != (want == 0) {
		t.Errorf("Equal(%s, %s) is %v", brief(a), brief(b), got)
	}
	if got := Equal(b, a); got != (want == 0) {
		t.Errorf("Equal(%s, %s) is %v", brief(b), brief(a), got)
	}
}

// isItself: a datum and the same tree made apart from it are one to all three calls.
func isItself(t *testing.T, d api.Datum) {
	t.Helper()
	twin := apart(d)
	compares(t, d, twin, 0)
	compares(t, d, d, 0)
	if Hash(d) != Hash(twin) || Hash(d) != Hash(d) {
		t.Errorf("%s: two hashes", brief(d))
	}
}

// rise: each of the data is less than all behind it, and no other one.
func rise(t *testing.T, data ...api.Datum) {
	t.Helper()
	for i, a := range data {
		isItself(t, a)
		for _, b := range data[i+1:] {
			compares(t, a, b, -1)
		}
		if t.Failed() {
			return
		}
	}
	apartByHash(t, data)
}

// apartByHash: which numbers are the hashes is free, but they are of use only if different trees have different ones.
func apartByHash(t *testing.T, data []api.Datum) {
	t.Helper()
	seen := map[uint64]api.Datum{}
	for _, d := range data {
		if twin, ok := seen[Hash(d)]; ok {
			t.Errorf("%s and %s have one hash", brief(d), brief(twin))
		}
		seen[Hash(d)] = d
	}
}

// inside are the same data, each as the one part of a whole: the wholes have the order of the parts.
func inside(data []api.Datum, around func(d api.Datum) api.Datum) []api.Datum {
	var out []api.Datum
	for _, d := range data {
		out = append(out, around(d))
	}
	return out
}

// riseAnywhere: so they do alone, and in the same place of others.
func riseAnywhere(t *testing.T, data ...api.Datum) {
	t.Helper()
	rise(t, data...)
	for _, around := range []func(d api.Datum) api.Datum{
		func(d api.Datum) api.Datum { return vector(d) },
		func(d api.Datum) api.Datum { return vector(sym("a"), d, d, empty()) },
		func(d api.Datum) api.Datum { return list(d) },
		func(d api.Datum) api.Datum { return pair(sym("a"), d) },
		func(d api.Datum) api.Datum { return dotted(vector(pair(d, whole(1))), sym("a"), raw(1)) },
	} {
		rise(t, inside(data, around)...)
	}
}
