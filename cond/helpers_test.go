package cond

import (
	"bytes"
	"fmt"
	"math"
	"slices"
	"strconv"
	"strings"
	"testing"

	"sextant/api"
	"sextant/datum"
)

// The limits written out, so that the tests do not follow a slip of the program's.
const (
	mostParts = 16
	mostNodes = 20000
	deepest   = 200
	maxInt    = math.MaxInt
	minInt    = math.MinInt
)

// treeType is what the chapter's table says of a type, with all types that it is under written out, and how many fields it has with its parents'.
type treeType struct {
	name   string
	parent int
	under  []int
	fields int
}

func tree() []treeType {
	return []treeType{
		{"condition", -1, []int{0}, 0},
		{"message", 0, []int{1, 0}, 1},
		{"warning", 0, []int{2, 0}, 0},
		{"serious", 0, []int{3, 0}, 0},
		{"error", 3, []int{4, 3, 0}, 0},
		{"violation", 3, []int{5, 3, 0}, 0},
		{"assertion", 5, []int{6, 5, 3, 0}, 0},
		{"irritants", 0, []int{7, 0}, 1},
		{"who", 0, []int{8, 0}, 1},
		{"non-continuable", 5, []int{9, 5, 3, 0}, 0},
		{"implementation-restriction", 5, []int{10, 5, 3, 0}, 0},
		{"lexical", 5, []int{11, 5, 3, 0}, 0},
		{"syntax", 5, []int{12, 5, 3, 0}, 2},
		{"undefined", 5, []int{13, 5, 3, 0}, 0},
		{"i/o", 4, []int{14, 4, 3, 0}, 0},
		{"i/o-read", 14, []int{15, 14, 4, 3, 0}, 0},
		{"i/o-write", 14, []int{16, 14, 4, 3, 0}, 0},
		{"i/o-filename", 14, []int{17, 14, 4, 3, 0}, 1},
		{"i/o-file-does-not-exist", 17, []int{18, 17, 14, 4, 3, 0}, 1},
		{"i/o-file-already-exists", 17, []int{19, 17, 14, 4, 3, 0}, 1},
	}
}

// noTypes are numbers that are no type's.
func noTypes() []int { return []int{-1, 20, -2, 21, 1 << 32, 1<<32 + 4, minInt, minInt + 4, maxInt} }

// read is the data of a text.
func read(s string) []api.Datum {
	data, _, e := datum.All(s)
	if e != api.OK {
		panic(s)
	}
	return data
}

// one is the datum of a text.
func one(s string) api.Datum {
	data := read(s)
	if len(data) != 1 {
		panic(s)
	}
	return data[0]
}

// condition is a list of parts, each told by its type's number and its fields behind that.
func condition(parts ...string) []api.Simple {
	var out []api.Simple
	for _, part := range parts {
		number, fields, _ := strings.Cut(part, " ")
		n, e := strconv.Atoi(number)
		if e != nil {
			panic(part)
		}
		out = append(out, api.Simple{Type: n, Fields: read(fields)})
	}
	return out
}

func part(number int, fields ...api.Datum) api.Simple {
	return api.Simple{Type: number, Fields: fields}
}

// ofType is a part without a fault.
func ofType(number int) api.Simple {
	return part(number, slices.Repeat([]api.Datum{sym("f")}, tree()[number].fields)...)
}

// eachType is a part of each type.
func eachType() []api.Simple {
	var out []api.Simple
	for number := range tree() {
		out = append(out, ofType(number))
	}
	return out
}

func sym(text string) api.Datum { return api.Datum{Kind: api.Symbol, Text: text} }

func empty() api.Datum { return api.Datum{Kind: api.Nil} }

func no() api.Datum { return api.Datum{Kind: api.Bool} }

func vector(items ...api.Datum) api.Datum { return api.Datum{Kind: api.Vector, List: items} }

func list(items ...api.Datum) api.Datum {
	out := empty()
	for _, item := range slices.Backward(items) {
		out = api.Datum{Kind: api.Pair, List: []api.Datum{item, out}}
	}
	return out
}

// nested is a symbol in so many levels.
func nested(levels int) api.Datum {
	d := sym("a")
	for range levels - 1 {
		d = vector(d)
	}
	return d
}

// someData are one or more sound data of each kind.
func someData() []api.Datum {
	data := read("() #t -7 0 1/3 1+2/3i #\\x0 #\\a \"\" \"a\\né\" a\\x20;b b #vu8() #vu8(0 255) (1 a) (\"a\" . 1) #() #(() #((a . #vu8(1 2))) 1/2-3i)")
	return append(data, api.Datum{Kind: api.Void}, api.Datum{Kind: api.Other, Text: "procedure"}, nested(deepest), vector(slices.Repeat(read("()"), mostNodes-1)...))
}

// unsound are data that are none, each for another reason.
func unsound() []api.Datum {
	out := []api.Datum{
		{}, {Kind: 12}, {Kind: -1}, {Kind: maxInt}, {Kind: api.Nil, N: 1}, {Kind: api.Bool, N: 2}, {Kind: api.Bool, Text: "a"}, {Kind: api.Bool, List: []api.Datum{no()}}, {Kind: api.Number}, {Kind: api.Char, N: 0xD800}, {Kind: api.Char, N: minInt},
		sym("\xff"), {Kind: api.String, Text: "a\xc3"}, {Kind: api.Bytes, Text: "a"}, {Kind: api.Pair}, {Kind: api.Pair, List: read("()")}, {Kind: api.Vector, Raw: []byte{1}},
		vector(slices.Repeat(read("()"), mostNodes)...), nested(deepest + 1), vector(empty(), vector(empty(), sym("\x80"))), list(sym("a"), api.Datum{}),
	}
	for at := range 2 {
		circle := read("() ()")
		circle[at] = api.Datum{Kind: api.Pair, List: circle}
		out = append(out, circle[at])
	}
	return out
}

// alike holds all fields of two data against each other; nil and empty lists are the same.
func alike(a, b api.Datum) bool {
	return a.Kind == b.Kind && a.N == b.N && alikeRat(a.Num.Re, b.Num.Re) && alikeRat(a.Num.Im, b.Num.Im) &&
		a.Text == b.Text && bytes.Equal(a.Raw, b.Raw) && slices.EqualFunc(a.List, b.List, alike)
}

func alikeRat(a, b api.Rat) bool {
	return a.Neg == b.Neg && slices.Equal(a.Top, b.Top) && slices.Equal(a.Bot, b.Bot)
}

func alikeParts(a, b api.Simple) bool {
	return a.Type == b.Type && slices.EqualFunc(a.Fields, b.Fields, alike)
}

// brief is what a test says of sound parts or data, cut short.
func brief(thing any) string {
	s := fmt.Sprintf("%+q", fmt.Sprintf("%+v", thing))
	return s[:min(len(s), 300)]
}

// types is what a test says of a condition: its parts' types.
func types(c []api.Simple) string {
	var out []int
	for _, part := range c[:min(len(c), 30)] {
		out = append(out, part.Type)
	}
	return fmt.Sprint(out)
}

// isFaulty: all calls of that condition answer that error, and nothing beside it.
func isFaulty(t *testing.T, c []api.Simple, want api.Errno) {
	t.Helper()
	if e := Check(c); e != want {
		t.Errorf("Check of types %s: error %d; want %d", types(c), e, want)
	}
	for at := range len(c) + 1 {
		if got, e := Join(c[:at], c[at:]); len(got) != 0 || e != want {
			t.Errorf("Join of types %s, cut at %d: types %s, error %d; want error %d", types(c), at, types(got), e, want)
		}
	}
	for _, number := range []int{0, 3, 7, 19, -1, 20, maxInt} {
		noFind(t, c, number, want)
	}
	if text, e := Tell(c); text != "" || e != want {
		t.Errorf("Tell of types %s: %q, error %d; want error %d", types(c), text, e, want)
	}
}

// isSound: Check finds no fault, and Join leaves it as it is, in however many lists it comes.
func isSound(t *testing.T, c []api.Simple) {
	t.Helper()
	if e := Check(c); e != api.OK {
		t.Errorf("Check of types %s: error %d", types(c), e)
	}
	var single [][]api.Simple
	for at := range c {
		single = append(single, c[at:at+1])
		joins(t, c, c[:at], c[at:])
	}
	joins(t, c, c)
	joins(t, c, single...)
}

func joins(t *testing.T, want []api.Simple, list ...[]api.Simple) {
	t.Helper()
	if got, e := Join(list...); e != api.OK || !slices.EqualFunc(got, want, alikeParts) {
		t.Errorf("Join of %d lists: types %s, error %d; want types %s", len(list), types(got), e, types(want))
	}
}

func finds(t *testing.T, c []api.Simple, number int, want api.Simple) {
	t.Helper()
	if got, e := Find(c, number); e != api.OK || !alikeParts(got, want) {
		t.Errorf("Find %d in types %s: %s, error %d; want %s", number, types(c), brief(got), e, brief(want))
	}
}

func noFind(t *testing.T, c []api.Simple, number int, want api.Errno) {
	t.Helper()
	if got, e := Find(c, number); e != want || !alikeParts(got, api.Simple{}) {
		t.Errorf("Find %d in types %s: a part of type %d with %d fields, error %d; want error %d", number, types(c), got.Type, len(got.Fields), e, want)
	}
}

func tells(t *testing.T, c []api.Simple, want string) {
	t.Helper()
	if got, e := Tell(c); got != want || e != api.OK {
		t.Errorf("Tell of types %s: %+q, error %d; want %+q", types(c), got, e, want)
	}
}

func errs(t *testing.T, who, message api.Datum, irritants []api.Datum, violation bool, want []api.Simple) {
	t.Helper()
	if got, e := Error(who, message, irritants, violation); e != api.OK || !slices.EqualFunc(got, want, alikeParts) {
		t.Errorf("Error(%s, %s, %d irritants, %v): %s, error %d; want %s", brief(who), brief(message), len(irritants), violation, brief(got), e, brief(want))
	}
}

// noError: Error answers ErrForm, be it a violation or not.
func noError(t *testing.T, who, message api.Datum, irritants ...api.Datum) {
	t.Helper()
	for _, violation := range []bool{false, true} {
		if got, e := Error(who, message, irritants, violation); len(got) != 0 || e != api.ErrForm {
			t.Errorf("Error of kinds %d, %d and %d irritants, %v: types %s, error %d; want error %d", who.Kind, message.Kind, len(irritants), violation, types(got), e, api.ErrForm)
		}
	}
}
