package datum

import (
	"bytes"
	"slices"
	"strconv"
	"strings"
	"testing"

	"sextant/api"
	"sextant/exact"
)

// The limits written out, so that the tests do not follow a slip of the program's.
const (
	mostNodes   = 20000
	deepest     = 200
	longestText = 65536
)

// Blanks, and all characters that delimit a token, as chapters 1 and 8 list them.
const (
	blanks     = "\t\n\v\f\r \u0085\u00a0\u2028\u2029"
	delimiters = blanks + `()[]";`
)

func empty() api.Datum { return api.Datum{Kind: api.Nil} }

func boolean(n int) api.Datum { return api.Datum{Kind: api.Bool, N: n} }

func char(c rune) api.Datum { return api.Datum{Kind: api.Char, N: int(c)} }

func str(text string) api.Datum { return api.Datum{Kind: api.String, Text: text} }

func sym(text string) api.Datum { return api.Datum{Kind: api.Symbol, Text: text} }

func raw(b ...byte) api.Datum { return api.Datum{Kind: api.Bytes, Raw: b} }

func vector(items ...api.Datum) api.Datum { return api.Datum{Kind: api.Vector, List: items} }

func whole(n int) api.Datum { return api.Datum{Kind: api.Number, Num: exact.Int(n)} }

// complexNumber is a/b + c/d i, laid out by hand; the parts are in their lowest terms.
func complexNumber(a, b, c, d int) api.Datum {
	return api.Datum{Kind: api.Number, Num: api.Num{Re: fraction(a, b), Im: fraction(c, d)}}
}

func fraction(top, bot int) api.Rat {
	r := api.Rat{Neg: top < 0, Bot: []uint32{uint32(bot)}}
	if top != 0 {
		r.Top = []uint32{uint32(max(top, -top))}
	}
	return r
}

func pair(a, b api.Datum) api.Datum {
	return api.Datum{Kind: api.Pair, List: []api.Datum{a, b}}
}

func list(items ...api.Datum) api.Datum { return dotted(empty(), items...) }

// dotted is a list that ends with the tail.
func dotted(tail api.Datum, items ...api.Datum) api.Datum {
	for i := len(items) - 1; i >= 0; i-- {
		tail = pair(items[i], tail)
	}
	return tail
}

// same holds all fields of two data against each other; nil and empty lists are the same.
func same(a, b api.Datum) bool {
	return a.Kind == b.Kind && a.N == b.N && sameRat(a.Num.Re, b.Num.Re) && sameRat(a.Num.Im, b.Num.Im) &&
		a.Text == b.Text && bytes.Equal(a.Raw, b.Raw) && slices.EqualFunc(a.List, b.List, same)
}

func sameRat(a, b api.Rat) bool {
	return a.Neg == b.Neg && slices.Equal(a.Top, b.Top) && slices.Equal(a.Bot, b.Bot)
}

// show tells a datum in a plain form, for what a test says.
func show(d api.Datum) string {
	switch d.Kind {
	case api.Nil:
		return "()"
	case api.Pair:
		return "(" + show(d.List[0]) + " . " + show(d.List[1]) + ")"
	case api.Vector:
		var items []string
		for _, item := range d.List {
			items = append(items, show(item))
		}
		return "#(" + strings.Join(items, " ") + ")"
	case api.Number:
		text, _ := exact.Text(d.Num, 10)
		return text
	case api.Symbol:
		return d.Text
	case api.String:
		return strconv.Quote(d.Text)
	case api.Bytes:
		return "bytes " + strconv.Quote(string(d.Raw))
	}
	return "kind " + strconv.Itoa(d.Kind) + " N " + strconv.Itoa(d.N) + " " + d.Text
}

// brief cuts a long text short, for what a test says.
func brief(s string) string {
	if len(s) <= 80 {
		return strconv.Quote(s)
	}
	return strconv.Quote(s[:60]) + ".. of " + strconv.Itoa(len(s)) + " bytes"
}

// reads: Read answers that datum and that place.
func reads(t *testing.T, s string, want api.Datum, place int) {
	t.Helper()
	d, end, e := Read(s)
	if e != api.OK || end != place || !same(d, want) {
		t.Errorf("Read(%s) is %s, %d, error %d; want %s, %d", brief(s), brief(show(d)), end, e, brief(show(want)), place)
	}
	if e == api.OK && !Sound(d) {
		t.Errorf("Read(%s) is not sound", brief(s))
	}
}

// readsWhole: Read answers that datum, which ends with the text.
func readsWhole(t *testing.T, s string, want api.Datum) {
	t.Helper()
	reads(t, s, want, len(s))
}

// refused: Read answers that error, and nothing beside it.
func refused(t *testing.T, s string, want api.Errno) {
	t.Helper()
	d, end, e := Read(s)
	if e != want || end != 0 || !same(d, api.Datum{}) {
		t.Errorf("Read(%s) is %s, %d, error %d; want error %d", brief(s), brief(show(d)), end, e, want)
	}
}

// faulty: Read answers ErrText for each.
func faulty(t *testing.T, texts ...string) {
	t.Helper()
	for _, s := range texts {
		refused(t, s, api.ErrText)
	}
}

// allAre: All answers these data.
func allAre(t *testing.T, s string, want ...api.Datum) {
	t.Helper()
	data, at, e := All(s)
	if e != api.OK || at != 0 || !slices.EqualFunc(data, want, same) {
		t.Errorf("All(%s) is %d data, %d, error %d; want %d data", brief(s), len(data), at, e, len(want))
	}
}

// allRefused: All answers that error at that place, and no data.
func allRefused(t *testing.T, s string, want api.Errno, place int) {
	t.Helper()
	data, at, e := All(s)
	if e != want || at != place || len(data) != 0 {
		t.Errorf("All(%s) is %d data, %d, error %d; want error %d at %d", brief(s), len(data), at, e, want, place)
	}
}

// largeNumber has one word more than a number may have.
func largeNumber() string {
	return "#x1" + strings.Repeat("0", 512*8)
}
