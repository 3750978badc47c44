package record

import (
	"slices"
	"strings"
	"testing"
	"unsafe"

	"sextant/api"
)

// roomyList is a copy with spare room, which is filled with something.
func roomyList[T any](list []T, filler T) []T {
	return append(slices.Clone(list), filler, filler, filler)[:len(list)]
}

// roomy is a deep copy of which all lists have spare room.
func roomy(d api.Datum) api.Datum {
	re, im := &d.Num.Re, &d.Num.Im
	for _, words := range []*[]uint32{&re.Top, &re.Bot, &im.Top, &im.Bot} {
		*words = roomyList(*words, 5)
	}
	d.Text, d.Raw, d.List = strings.Clone(d.Text), roomyList(d.Raw, 5), roomyData(d.List)
	return d
}

func roomyData(data []api.Datum) []api.Datum {
	out := roomyList(data, sym("room"))
	for i, d := range out {
		out[i] = roomy(d)
	}
	return out
}

func roomyType(t api.Rtd) api.Rtd {
	t.Name, t.Uid = strings.Clone(t.Name), strings.Clone(t.Uid)
	t.Fields, t.Mutable = roomyList(t.Fields, "room"), roomyList(t.Mutable, true)
	for i, field := range t.Fields {
		t.Fields[i] = strings.Clone(field)
	}
	return t
}

// sameRoom holds two lists against each other, spare room included.
func sameRoom[T comparable](a, b []T) bool {
	return len(a) == len(b) && slices.Equal(a[:cap(a)], b[:cap(b)])
}

func sameRoomData(a, b []api.Datum) bool {
	return len(a) == len(b) && slices.EqualFunc(a[:cap(a)], b[:cap(b)], func(a, b api.Datum) bool {
		x, y := a.Num, b.Num
		return alike(a, b) && sameRoom(x.Re.Top, y.Re.Top) && sameRoom(x.Re.Bot, y.Re.Bot) && sameRoom(x.Im.Top, y.Im.Top) && sameRoom(x.Im.Bot, y.Im.Bot) && sameRoom(a.Raw, b.Raw) && sameRoomData(a.List, b.List)
	})
}

func sameRoomTypes(a, b api.Rtd) bool {
	return alikeTypes(a, b) && sameRoom(a.Fields, b.Fields) && sameRoom(a.Mutable, b.Mutable)
}

// piece is memory that a list or a text has, from its first byte to the one behind its last.
type piece struct{ from, to uintptr }

func pieceOf[T any](list []T) piece {
	from := uintptr(unsafe.Pointer(unsafe.SliceData(list)))
	return piece{from, from + uintptr(cap(list))*unsafe.Sizeof(*new(T))}
}

func textPiece(s string) piece { return pieceOf(unsafe.Slice(unsafe.StringData(s), len(s))) }

// dataPieces are all of a list of data, room included.
func dataPieces(data []api.Datum) []piece {
	out := []piece{pieceOf(data)}
	for _, d := range data {
		out = append(out, textPiece(d.Text), pieceOf(d.Raw), pieceOf(d.Num.Re.Top), pieceOf(d.Num.Re.Bot), pieceOf(d.Num.Im.Top), pieceOf(d.Num.Im.Bot))
		out = append(out, dataPieces(d.List)...)
	}
	return out
}

func typePieces(t api.Rtd) []piece {
	out := []piece{textPiece(t.Name), textPiece(t.Uid), pieceOf(t.Fields), pieceOf(t.Mutable)}
	for _, field := range t.Fields {
		out = append(out, textPiece(field))
	}
	return out
}

// kept are the pieces of all that a store keeps.
func kept(s *Store) []piece {
	out := []piece{pieceOf(s.types), pieceOf(s.records)}
	for _, t := range s.types {
		out = append(out, typePieces(t)...)
	}
	for _, r := range s.records {
		out = append(out, dataPieces(r.values)...)
	}
	return out
}

// apart: does no piece of memory stand in two of them?
func apart(lists ...[]piece) bool {
	all := slices.DeleteFunc(slices.Concat(lists...), func(p piece) bool { return p.from == p.to })
	slices.SortFunc(all, func(a, b piece) int { return int(a.from) - int(b.from) })
	for i := 1; i < len(all); i++ {
		if all[i].from < all[i-1].to {
			return false
		}
	}
	return true
}

// fill writes over a list, room included.
func fill[T any](list []T, with T) {
	for i := range list[:cap(list)] {
		list[:cap(list)][i] = with
	}
}

// spoil writes over all that can be written over.
func spoil(data []api.Datum) {
	for _, d := range data[:cap(data)] {
		for _, words := range [][]uint32{d.Num.Re.Top, d.Num.Re.Bot, d.Num.Im.Top, d.Num.Im.Bot} {
			fill(words, 99)
		}
		fill(d.Raw, 99)
		spoil(d.List)
	}
	fill(data, sym("spoilt"))
}

func spoilType(t api.Rtd) {
	fill(t.Fields, "spoilt")
	for i := range t.Mutable[:cap(t.Mutable)] {
		t.Mutable[:cap(t.Mutable)][i] = !t.Mutable[:cap(t.Mutable)][i]
	}
}

// someTypes are such as are taken, one behind the other, and such as are not.
func someTypes() []api.Rtd {
	short, long := rtd("a", -1, "x!", "y"), rtd("a", -1, "x", "y!")
	short.Mutable, long.Fields = short.Mutable[:1], long.Fields[:1]
	return []api.Rtd{
		rtd("", -1), rtd("point", -1, "x!", "y"), withUid("uid", rtd("dot", 1, "c!", "d!")), withUid("uid", rtd("dot", 1, "c!", "d!")), withUid("uid", rtd("dot", 1, "d!", "c!")), sealed(withUid("other", opaque(rtd("end", 2, named("f", 12)...)))),
		rtd("a", 3), rtd("a", 17, "x!"), rtd("a", 2, named("f", 13)...), rtd("a", -1, "b", "a", "b"), rtd("a", -1, named("f", 70)...), short, long, rtd("twice", -1, "z", "y", "x"),
	}
}

// R4: types and values that are handed in are not changed, spare room included, whatever the call answers.
func TestGivenIsLeft(t *testing.T) {
	x := storeOf(t)
	for _, one := range append(someTypes(), someTypes()...) {
		in, want := roomyType(one), roomyType(one)
		x.s.Type(in)
		if !sameRoomTypes(in, want) {
			t.Errorf("Type has changed %s", brief(one))
		}
	}
	for _, extra := range append(someData(), unsound()[:15]...) {
		for number := -1; number < 5; number++ {
			for _, values := range [][]api.Datum{nil, {extra}, {extra, extra}, {extra, sym("a"), extra, sym("b")}, append(numbers(0, 15), extra)} {
				in, want := roomyData(values), roomyData(values)
				x.s.Make(number, in)
				for r := range 3 {
					for _, d := range in {
						x.s.Set(r, number, 0, d)
					}
				}
				if !sameRoomData(in, want) {
					t.Errorf("Make or Set has changed values of type %d", number)
				}
			}
		}
	}
}

// R4: what is handed in is not kept: it may be written over, and the store stays; texts are memory, too.
func TestGivenIsNotKept(t *testing.T) {
	x := storeOf(t)
	var types []api.Rtd
	var pieces []piece
	for _, one := range append(someTypes(), someTypes()...) {
		in := roomyType(one)
		x.s.Type(in)
		types, pieces = append(types, in), append(pieces, typePieces(in)...)
	}
	var given [][]api.Datum
	for n, d := range someData() {
		in, other := roomyData([]api.Datum{d, d, sym("c"), d}), roomyData([]api.Datum{d})
		x.make(2, n, in...)
		x.set(n, 2, 0, other[0])
		given = append(given, in, other)
	}
	for _, in := range given {
		pieces = append(pieces, dataPieces(in)...)
	}
	if !apart(pieces, kept(x.s)) {
		t.Error("a store shares memory with what was handed in")
	}
	x.stays("writing over what was handed in", func() {
		for _, one := range types {
			spoilType(one)
		}
		for _, in := range given {
			spoil(in)
		}
	})
}

// filled is a store of types, and of records that have all sorts of values.
func filled(t *testing.T) tried {
	t.Helper()
	x := storeOf(t)
	for _, one := range someTypes() {
		x.s.Type(one)
	}
	for n, d := range someData() {
		x.make(2, n, d, sym("a"), d, d)
	}
	return x
}

// answers are all lists that the calls answer of a store.
func (x tried) answers() (types []api.Rtd, data []api.Datum) {
	s := x.seen()
	for _, r := range s.records {
		data = append(data, r.values...)
	}
	return s.types, data
}

// R4: what Rtd and Get answer is new memory: it may be written over, and the store and other answers stay.
func TestAnswersAreNew(t *testing.T) {
	x := filled(t)
	types, data := x.answers()
	others, more := x.answers()
	pieces := slices.Concat(dataPieces(data), dataPieces(more))
	for _, one := range append(slices.Clone(types), others...) {
		pieces = append(pieces, typePieces(one)...)
	}
	if !apart(pieces, kept(x.s)) {
		t.Error("answers share memory with one another, or with the store")
	}
	x.stays("writing over answers", func() {
		for _, one := range types {
			spoilType(one)
		}
		spoil(data)
	})
	if wantTypes, want := x.answers(); !slices.EqualFunc(others, wantTypes, alikeTypes) || !slices.EqualFunc(more, want, alike) {
		t.Error("answers are changed with others")
	}
}

// R4: no later call changes what was answered.
func TestAnswersStay(t *testing.T) {
	x := filled(t)
	types, data := x.answers()
	wantTypes, want := filled(t).answers()
	for r := range someData() {
		x.set(r, 1, 0, sym("new"))
		x.set(r, 2, 0, vector(sym("new"), sym("newer")))
		x.set(r, 2, 1, read("5/7-2i")[0])
	}
	for n := range 100 {
		x.typ(rtd("new", n%2, "new!"), 5+n)
	}
	if !slices.EqualFunc(types, wantTypes, alikeTypes) || !slices.EqualFunc(data, want, alike) {
		t.Error("later calls have changed what was answered")
	}
}

// R4: values that share memory when they are handed in share none in the store, nor in an answer.
func TestSharedValuesArePutApart(t *testing.T) {
	part := read("(a #(1/2+3/4i \"b\") #vu8(1 2))")[0]
	both := vector(part, part)
	x := storeOf(t, rtd("a", -1, "x!", "y!"))
	x.make(0, 0, both, both)
	x.make(0, 1, both, both)
	x.set(1, 0, 1, both)
	first, _ := x.s.Get(1, 0, 0)
	second, _ := x.s.Get(1, 0, 1)
	if !apart(kept(x.s), dataPieces(first.List), dataPieces(second.List)) {
		t.Error("values that shared memory still do")
	}
}

// R5: stores have nothing in common.
func TestStoresAreApart(t *testing.T) {
	a, b := family(t), family(t)
	b.stays("what is done to another store", func() {
		a.typ(withUid("u", rtd("g", 5)), 6)
		a.make(6, 6, sym("a"))
		a.set(1, 1, 1, sym("new"))
	})
	b.typ(withUid("u", rtd("h", -1)), 6)
	b.make(6, 6)
}
