package write

import (
	"bytes"
	"slices"
	"strconv"
	"testing"

	"sextant/api"
	"sextant/datum"
)

// The limits written out, so that the tests do not follow a slip of the program's.
const (
	mostNodes     = 20000
	deepest       = 200
	longestText   = 65536
	longestNumber = 16384
	mostWords     = 512
)

func empty() api.Datum { return api.Datum{Kind: api.Nil} }

func void() api.Datum { return api.Datum{Kind: api.Void} }

func other(text string) api.Datum { return api.Datum{Kind: api.Other, Text: text} }

func boolean(n int) api.Datum { return api.Datum{Kind: api.Bool, N: n} }

func char(c rune) api.Datum { return api.Datum{Kind: api.Char, N: int(c)} }

func str(text string) api.Datum { return api.Datum{Kind: api.String, Text: text} }

func sym(text string) api.Datum { return api.Datum{Kind: api.Symbol, Text: text} }

func raw(b ...byte) api.Datum { return api.Datum{Kind: api.Bytes, Raw: b} }

func vector(items ...api.Datum) api.Datum { return api.Datum{Kind: api.Vector, List: items} }

func whole(n int) api.Datum { return complexNumber(n, 1, 0, 1) }

// complexNumber is a/b + c/d i, laid out by hand; the parts are in their lowest terms.
func complexNumber(a, b, c, d int) api.Datum {
	return api.Datum{Kind: api.Number, Num: api.Num{Re: fraction(a, b), Im: fraction(c, d)}}
}

func fraction(top, bot int) api.Rat {
	r := api.Rat{Neg: top < 0, Bot: []uint32{uint32(bot)}}
	if top != 0 {
		r.Top = []uint32{uint32(max(top, -top))}
	}
	return r
}

func pair(a, b api.Datum) api.Datum {
	return api.Datum{Kind: api.Pair, List: []api.Datum{a, b}}
}

func list(items ...api.Datum) api.Datum { return dotted(empty(), items...) }

// dotted is a list that ends with the tail.
func dotted(tail api.Datum, items ...api.Datum) api.Datum {
	for _, item := range slices.Backward(items) {
		tail = pair(item, tail)
	}
	return tail
}

func quote(d api.Datum) api.Datum { return list(sym("quote"), d) }

// repeated is that datum so many times, as items.
func repeated(d api.Datum, n int) []api.Datum { return slices.Repeat([]api.Datum{d}, n) }

// count is how many nodes a datum has.
func count(d api.Datum) int {
	n := 1
	for _, item := range d.List {
		n += count(item)
	}
	return n
}

// same holds all fields of two data against each other; nil and empty lists are the same.
func same(a, b api.Datum) bool {
	return a.Kind == b.Kind && a.N == b.N && sameRat(a.Num.Re, b.Num.Re) && sameRat(a.Num.Im, b.Num.Im) &&
		a.Text == b.Text && bytes.Equal(a.Raw, b.Raw) && slices.EqualFunc(a.List, b.List, same)
}

func sameRat(a, b api.Rat) bool {
	return a.Neg == b.Neg && slices.Equal(a.Top, b.Top) && slices.Equal(a.Bot, b.Bot)
}

// brief cuts a long text short, for what a test says.
func brief(s string) string {
	if len(s) <= 80 {
		return strconv.Quote(s)
	}
	return strconv.Quote(s[:60]) + ".. of " + strconv.Itoa(len(s)) + " bytes"
}

// writes: Write answers that text.
func writes(t *testing.T, d api.Datum, want string) {
	t.Helper()
	if got, e := Write(d); got != want || e != api.OK {
		t.Errorf("Write is %s, error %d; want %s", brief(got), e, brief(want))
	}
}

// displays: Display answers that text.
func displays(t *testing.T, d api.Datum, want string) {
	t.Helper()
	if got, e := Display(d); got != want || e != api.OK {
		t.Errorf("Display is %s, error %d; want %s", brief(got), e, brief(want))
	}
}

// bothAre: Write and Display answer that text.
func bothAre(t *testing.T, d api.Datum, want string) {
	t.Helper()
	writes(t, d, want)
	displays(t, d, want)
}

// refused: both calls answer ErrForm, and nothing beside it.
func refused(t *testing.T, what string, d api.Datum) {
	t.Helper()
	if got, e := Write(d); got != "" || e != api.ErrForm {
		t.Errorf("%s: Write is %s, error %d; want ErrForm", what, brief(got), e)
	}
	if got, e := Display(d); got != "" || e != api.ErrForm {
		t.Errorf("%s: Display is %s, error %d; want ErrForm", what, brief(got), e)
	}
}

// readAgain: Read of Write is the datum, and the place is the end of the text, with or without something behind it that a token ends ahead of.
func readAgain(t *testing.T, d api.Datum) {
	t.Helper()
	text, e := Write(d)
	if e != api.OK || len(text) > longestText {
		t.Errorf("Write is %s, error %d: nothing that could be read", brief(text), e)
		return
	}
	for _, behind := range []string{"", " ", ")", "(a", "\n)", "\"", "\u2028\xff", "]1"} {
		if len(text)+len(behind) > longestText {
			continue
		}
		got, end, e := datum.Read(text + behind)
		if e != api.OK || end != len(text) || !same(got, d) {
			t.Errorf("Read(%s with %q behind it) ends at %d, error %d, the same datum: %v", brief(text), behind, end, e, same(got, d))
		}
	}
}
