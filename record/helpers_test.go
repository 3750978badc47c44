package record

import (
	"bytes"
	"fmt"
	"math"
	"slices"
	"strconv"
	"strings"
	"testing"

	"sextant/api"
	"sextant/datum"
)

// The limits written out, so that the tests do not follow a slip of the program's.
const (
	mostFields  = 16
	mostTypes   = 4096
	mostRecords = 20000
	mostNodes   = 20000
	deepest     = 200
	maxInt      = math.MaxInt
	minInt      = math.MinInt
)

// read is the data of a text.
func read(s string) []api.Datum {
	data, _, e := datum.All(s)
	if e != api.OK {
		panic(s)
	}
	return data
}

func sym(text string) api.Datum { return api.Datum{Kind: api.Symbol, Text: text} }

func vector(items ...api.Datum) api.Datum { return api.Datum{Kind: api.Vector, List: items} }

// numbers are the whole numbers from first on, so many of them.
func numbers(first, count int) []api.Datum {
	var out []api.Datum
	for n := range count {
		out = append(out, read(strconv.Itoa(first+n))...)
	}
	return out
}

// someData are one or more sound data of each kind.
func someData() []api.Datum {
	data := read("() #f #t -7 0 1/3 1+2/3i #\\x0 #\\a \"\" \"aé\" a\\x20;b b #vu8() #vu8(0 255) (1 a) (\"a\" . 1) #() #(() #((a . #vu8(1 2))) 1/2-3i)")
	return append(data, api.Datum{Kind: api.Void}, api.Datum{Kind: api.Other, Text: "procedure"})
}

// unsound are data that are none, each for another reason.
func unsound() []api.Datum {
	empty := api.Datum{Kind: api.Nil}
	deep := empty
	for range deepest {
		deep = vector(deep)
	}
	out := []api.Datum{
		{}, {Kind: 12}, {Kind: -1}, {Kind: maxInt}, {Kind: api.Nil, N: 1}, {Kind: api.Bool, N: 2}, {Kind: api.Number}, {Kind: api.Char, N: 0xD800}, {Kind: api.Char, N: minInt},
		sym("\xff"), {Kind: api.String, Text: "a\xc3"}, {Kind: api.Bytes, Text: "a"}, {Kind: api.Pair}, {Kind: api.Pair, List: []api.Datum{empty}}, {Kind: api.Vector, Raw: []byte{1}},
		vector(slices.Repeat([]api.Datum{empty}, mostNodes)...), deep, vector(empty, vector(empty, sym("\x80"))),
	}
	for at := range 2 {
		circle := []api.Datum{empty, empty}
		circle[at] = api.Datum{Kind: api.Pair, List: circle}
		out = append(out, circle[at])
	}
	return out
}

// rtd is a type of that name and parent; a field whose name has a ! behind it can be changed.
func rtd(name string, parent int, fields ...string) api.Rtd {
	t := api.Rtd{Name: name, Parent: parent}
	for _, field := range fields {
		bare := strings.TrimSuffix(field, "!")
		t.Fields = append(t.Fields, bare)
		t.Mutable = append(t.Mutable, bare != field)
	}
	return t
}

// named are so many fields of names that all differ, each of which can be changed.
func named(prefix string, count int) []string {
	var out []string
	for n := range count {
		out = append(out, prefix+strconv.Itoa(n)+"!")
	}
	return out
}

func sealed(t api.Rtd) api.Rtd {
	t.Sealed = true
	return t
}

func opaque(t api.Rtd) api.Rtd {
	t.Opaque = true
	return t
}

func withUid(uid string, t api.Rtd) api.Rtd {
	t.Uid = uid
	return t
}

// alike holds all fields of two data against each other; nil and empty lists are the same.
func alike(a, b api.Datum) bool {
	return a.Kind == b.Kind && a.N == b.N && alikeRat(a.Num.Re, b.Num.Re) && alikeRat(a.Num.Im, b.Num.Im) &&
		a.Text == b.Text && bytes.Equal(a.Raw, b.Raw) && slices.EqualFunc(a.List, b.List, alike)
}

func alikeRat(a, b api.Rat) bool {
	return a.Neg == b.Neg && slices.Equal(a.Top, b.Top) && slices.Equal(a.Bot, b.Bot)
}

// alikeTypes holds all fields of two types against each other, by their values one behind the other.
func alikeTypes(a, b api.Rtd) bool {
	return slices.Equal(a.Fields, b.Fields) && slices.Equal(a.Mutable, b.Mutable) &&
		[3]string{a.Name, a.Uid, strconv.Itoa(a.Parent)} == [3]string{b.Name, b.Uid, strconv.Itoa(b.Parent)} && [2]bool{a.Sealed, a.Opaque} == [2]bool{b.Sealed, b.Opaque}
}

// brief is what a test says of a type or a datum, cut short.
func brief(thing any) string {
	s := fmt.Sprintf("%+q", fmt.Sprintf("%+v", thing))
	return s[:min(len(s), 200)]
}

// tried is a store whose calls are held against what a test says that they answer.
type tried struct {
	t *testing.T
	s *Store
}

func storeOf(t *testing.T, types ...api.Rtd) tried {
	t.Helper()
	s := New()
	if s == nil {
		t.Fatal("New is nil")
	}
	x := tried{t, s}
	for i, one := range types {
		x.typ(one, i)
	}
	return x
}

// typ: the type has that number, and is what was handed in.
func (x tried) typ(given api.Rtd, want int) {
	x.t.Helper()
	if n, e := x.s.Type(given); n != want || e != api.OK {
		x.t.Fatalf("Type(%s): %d, error %d; want %d", brief(given), n, e, want)
	}
	x.rtd(want, given)
}

func (x tried) noType(given api.Rtd, want api.Errno) {
	x.t.Helper()
	if n, e := x.s.Type(given); n != 0 || e != want {
		x.t.Errorf("Type(%s): %d, error %d; want error %d", brief(given), n, e, want)
	}
}

func (x tried) rtd(number int, want api.Rtd) {
	x.t.Helper()
	if got, e := x.s.Rtd(number); e != api.OK || !alikeTypes(got, want) {
		x.t.Errorf("Rtd(%d): %s, error %d; want %s", number, brief(got), e, brief(want))
	}
}

func (x tried) noRtd(number int, want api.Errno) {
	x.t.Helper()
	if got, e := x.s.Rtd(number); e != want || !alikeTypes(got, api.Rtd{}) {
		x.t.Errorf("Rtd(%d): %s, error %d; want error %d", number, brief(got), e, want)
	}
}

func (x tried) fields(number, want int) {
	x.t.Helper()
	if n, e := x.s.Fields(number); n != want || e != api.OK {
		x.t.Errorf("Fields(%d): %d, error %d; want %d", number, n, e, want)
	}
}

func (x tried) noFields(number int, want api.Errno) {
	x.t.Helper()
	if n, e := x.s.Fields(number); n != 0 || e != want {
		x.t.Errorf("Fields(%d): %d, error %d; want error %d", number, n, e, want)
	}
}

func (x tried) make(number, want int, values ...api.Datum) {
	x.t.Helper()
	if r, e := x.s.Make(number, values); r != want || e != api.OK {
		x.t.Fatalf("Make(%d, %d values): %d, error %d; want %d", number, len(values), r, e, want)
	}
}

func (x tried) noMake(number int, want api.Errno, values ...api.Datum) {
	x.t.Helper()
	if r, e := x.s.Make(number, values); r != 0 || e != want {
		x.t.Errorf("Make(%d, %d values): %d, error %d; want error %d", number, len(values), r, e, want)
	}
}

func (x tried) is(r, number int, want bool) {
	x.t.Helper()
	if is, e := x.s.Is(r, number); is != want || e != api.OK {
		x.t.Errorf("Is(%d, %d): %v, error %d; want %v", r, number, is, e, want)
	}
}

func (x tried) get(r, number, i int, want api.Datum) {
	x.t.Helper()
	if got, e := x.s.Get(r, number, i); e != api.OK || !alike(got, want) {
		x.t.Errorf("Get(%d, %d, %d): %s, error %d; want %s", r, number, i, brief(got), e, brief(want))
	}
}

func (x tried) noGet(r, number, i int, want api.Errno) {
	x.t.Helper()
	if got, e := x.s.Get(r, number, i); e != want || !alike(got, api.Datum{}) {
		x.t.Errorf("Get(%d, %d, %d): %s, error %d; want error %d", r, number, i, brief(got), e, want)
	}
}

// set: the field is changed, as Get tells.
func (x tried) set(r, number, i int, v api.Datum) {
	x.t.Helper()
	if e := x.s.Set(r, number, i, v); e != api.OK {
		x.t.Errorf("Set(%d, %d, %d): error %d", r, number, i, e)
	}
	x.get(r, number, i, v)
}

func (x tried) noSet(r, number, i int, v api.Datum, want api.Errno) {
	x.t.Helper()
	if e := x.s.Set(r, number, i, v); e != want {
		x.t.Errorf("Set(%d, %d, %d, a datum of kind %d): error %d; want error %d", r, number, i, v.Kind, e, want)
	}
}

func (x tried) typeOf(r, want int) {
	x.t.Helper()
	if n, e := x.s.TypeOf(r); n != want || e != api.OK {
		x.t.Errorf("TypeOf(%d): %d, error %d; want %d", r, n, e, want)
	}
}

func (x tried) noTypeOf(r int, want api.Errno) {
	x.t.Helper()
	if n, e := x.s.TypeOf(r); n != 0 || e != want {
		x.t.Errorf("TypeOf(%d): %d, error %d; want error %d", r, n, e, want)
	}
}

// refused: Is, Get and Set answer that error, whatever the place and the value are.
func (x tried) refused(r, number int, want api.Errno) {
	x.t.Helper()
	if is, e := x.s.Is(r, number); is || e != want {
		x.t.Errorf("Is(%d, %d): %v, error %d; want error %d", r, number, is, e, want)
	}
	x.outside(r, number, want)
}

// outside: the record is not of that type, or one of them is not there: Get and Set answer that error, ahead of all others.
func (x tried) outside(r, number int, want api.Errno) {
	x.t.Helper()
	for _, i := range []int{0, 1, 2, -1, mostFields, minInt, maxInt} {
		x.noPlace(r, number, i, want)
	}
}

// noPlace: Get and Set answer that error, ahead of what they would say of the value.
func (x tried) noPlace(r, number, i int, want api.Errno) {
	x.t.Helper()
	x.noGet(r, number, i, want)
	x.noSet(r, number, i, sym("new"), want)
	x.noSet(r, number, i, api.Datum{}, want)
}

// seen is all that the calls tell of a store: of each type, and of each record.
type seen struct {
	types   []api.Rtd
	fields  []int
	records []seenRecord
}

type seenRecord struct {
	kind   int
	e      api.Errno
	is     []bool
	values []api.Datum
}

func (x tried) seen() seen {
	x.t.Helper()
	var out seen
	for number := 0; ; number++ {
		one, e := x.s.Rtd(number)
		n, f := x.s.Fields(number)
		if e != f {
			x.t.Fatalf("Rtd and Fields of %d: errors %d and %d", number, e, f)
		}
		if e != api.OK {
			break
		}
		out.types = append(out.types, one)
		out.fields = append(out.fields, n)
	}
	for r := 0; ; r++ {
		kind, e := x.s.TypeOf(r)
		if e == api.ErrNone {
			return out
		}
		out.records = append(out.records, x.seenRecord(r, out.types, kind, e))
	}
}

func (x tried) seenRecord(r int, types []api.Rtd, kind int, e api.Errno) seenRecord {
	x.t.Helper()
	out := seenRecord{kind: kind, e: e}
	for number, one := range types {
		is, e := x.s.Is(r, number)
		if e != api.OK {
			x.t.Fatalf("Is(%d, %d), which are there: error %d", r, number, e)
		}
		out.is = append(out.is, is)
		for i := range one.Fields {
			if v, e := x.s.Get(r, number, i); is && e == api.OK {
				out.values = append(out.values, v)
			} else if is || e != api.ErrType {
				x.t.Fatalf("Get(%d, %d, %d): error %d; Is is %v", r, number, i, e, is)
			}
		}
	}
	return out
}

func sameSeen(a, b seen) bool {
	return slices.EqualFunc(a.types, b.types, alikeTypes) && slices.Equal(a.fields, b.fields) && slices.EqualFunc(a.records, b.records, func(a, b seenRecord) bool {
		return a.kind == b.kind && a.e == b.e && slices.Equal(a.is, b.is) && slices.EqualFunc(a.values, b.values, alike)
	})
}

// stays: what is done changes nothing that the calls tell.
func (x tried) stays(what string, do func()) {
	x.t.Helper()
	before := x.seen()
	do()
	if after := x.seen(); !sameSeen(before, after) {
		x.t.Errorf("%s has changed the store of %d types and %d records to one of %d and %d, or what they are", what, len(before.types), len(before.records), len(after.types), len(after.records))
	}
}
