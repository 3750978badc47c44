package cond

import (
	"slices"
	"strings"
	"testing"
	"unsafe"

	"sextant/api"
)

// roomyList is a copy with spare room, which is filled with something.
func roomyList[T any](list []T, filler T) []T {
	return append(slices.Clone(list), filler, filler, filler)[:len(list)]
}

// roomy is a deep copy of which all lists have spare room.
func roomy(d api.Datum) api.Datum {
	re, im := &d.Num.Re, &d.Num.Im
	for _, words := range []*[]uint32{&re.Top, &re.Bot, &im.Top, &im.Bot} {
		*words = roomyList(*words, 5)
	}
	d.Text, d.Raw, d.List = strings.Clone(d.Text), roomyList(d.Raw, 5), roomyData(d.List)
	return d
}

func roomyData(data []api.Datum) []api.Datum {
	out := roomyList(data, sym("room"))
	for i, d := range out {
		out[i] = roomy(d)
	}
	return out
}

func roomyParts(c []api.Simple) []api.Simple {
	out := roomyList(c, part(2))
	for i, one := range out {
		out[i] = part(one.Type, roomyData(one.Fields)...)
	}
	return out
}

// sameRoom holds two lists against each other, spare room included.
func sameRoom[T comparable](a, b []T) bool {
	return len(a) == len(b) && slices.Equal(a[:cap(a)], b[:cap(b)])
}

func sameRoomData(a, b []api.Datum) bool {
	return len(a) == len(b) && slices.EqualFunc(a[:cap(a)], b[:cap(b)], func(a, b api.Datum) bool {
		x, y := a.Num, b.Num
		return alike(a, b) && sameRoom(x.Re.Top, y.Re.Top) && sameRoom(x.Re.Bot, y.Re.Bot) && sameRoom(x.Im.Top, y.Im.Top) && sameRoom(x.Im.Bot, y.Im.Bot) && sameRoom(a.Raw, b.Raw) && sameRoomData(a.List, b.List)
	})
}

func sameRoomParts(a, b []api.Simple) bool {
	return len(a) == len(b) && slices.EqualFunc(a[:cap(a)], b[:cap(b)], func(a, b api.Simple) bool {
		return a.Type == b.Type && sameRoomData(a.Fields, b.Fields)
	})
}

// piece is memory that a list or a text has, from its first byte to the one behind its last.
type piece struct{ from, to uintptr }

func pieceOf[T any](list []T) piece {
	from := uintptr(unsafe.Pointer(unsafe.SliceData(list)))
	return piece{from, from + uintptr(cap(list))*unsafe.Sizeof(*new(T))}
}

func textPiece(s string) piece { return pieceOf(unsafe.Slice(unsafe.StringData(s), len(s))) }

// dataPieces are all of a list of data, room included.
func dataPieces(data []api.Datum) []piece {
	out := []piece{pieceOf(data)}
	for _, d := range data {
		out = append(out, textPiece(d.Text), pieceOf(d.Raw), pieceOf(d.Num.Re.Top), pieceOf(d.Num.Re.Bot), pieceOf(d.Num.Im.Top), pieceOf(d.Num.Im.Bot))
		out = append(out, dataPieces(d.List)...)
	}
	return out
}

func partPieces(c []api.Simple) []piece {
	out := []piece{pieceOf(c)}
	for _, part := range c {
		out = append(out, dataPieces(part.Fields)...)
	}
	return out
}

// apart: does no piece of memory stand in two of them?
func apart(lists ...[]piece) bool {
	all := slices.DeleteFunc(slices.Concat(lists...), func(p piece) bool { return p.from == p.to })
	slices.SortFunc(all, func(a, b piece) int { return int(a.from) - int(b.from) })
	for i := 1; i < len(all); i++ {
		if all[i].from < all[i-1].to {
			return false
		}
	}
	return true
}

// fill writes over a list, room included.
func fill[T any](list []T, with T) {
	for i := range list[:cap(list)] {
		list[:cap(list)][i] = with
	}
}

// spoil writes over all that can be written over.
func spoil(data []api.Datum) {
	for _, d := range data[:cap(data)] {
		for _, words := range [][]uint32{d.Num.Re.Top, d.Num.Re.Bot, d.Num.Im.Top, d.Num.Im.Bot} {
			fill(words, 99)
		}
		fill(d.Raw, 99)
		spoil(d.List)
	}
	fill(data, sym("spoilt"))
}

func spoilParts(c []api.Simple) {
	for _, part := range c[:cap(c)] {
		spoil(part.Fields)
	}
	fill(c, part(13))
}

// given is what is handed in to a call: conditions, or data.
type given struct {
	conditions [][]api.Simple
	data       []api.Datum
}

func (g given) roomy() given {
	out := given{data: roomyData(g.data)}
	for _, c := range g.conditions {
		out.conditions = append(out.conditions, roomyParts(c))
	}
	return out
}

func (g given) pieces() []piece {
	out := dataPieces(g.data)
	for _, c := range g.conditions {
		out = append(out, partPieces(c)...)
	}
	return out
}

func (g given) spoil() {
	spoil(g.data)
	for _, c := range g.conditions {
		spoilParts(c)
	}
}

func sameGiven(a, b given) bool {
	return sameRoomData(a.data, b.data) && slices.EqualFunc(a.conditions, b.conditions, sameRoomParts)
}

// used is one use of a call: what is handed in, and what comes of it. A text is answered as a part's field.
type used struct {
	name string
	in   given
	of   func(in given) ([]api.Simple, api.Errno)
}

// uses has each call that is handed conditions or data, with such as it takes and such as it does not.
func uses() []used {
	var out []used
	small := someData()[:20]
	for _, d := range append(small, unsound()[:17]...) {
		c := []api.Simple{part(8, d), part(6), part(12, d, d), part(1, d), part(7, list(d, d)), part(18, d)}
		for _, c := range [][]api.Simple{c, c[1:2], append(c, part(4, d)), append(c, part(20)), slices.Concat(c, c, c), c[:0]} {
			out = append(out, used{"Check", given{conditions: [][]api.Simple{c}}, func(in given) ([]api.Simple, api.Errno) { return nil, Check(in.conditions[0]) }})
			out = append(out, used{"Tell", given{conditions: [][]api.Simple{c}}, func(in given) ([]api.Simple, api.Errno) {
				text, e := Tell(in.conditions[0])
				return []api.Simple{part(1, api.Datum{Text: text})}, e
			}})
			for _, number := range []int{0, 5, 8, 17, 19, 20} {
				out = append(out, used{"Find", given{conditions: [][]api.Simple{c}}, func(in given) ([]api.Simple, api.Errno) {
					found, e := Find(in.conditions[0], number)
					return []api.Simple{found}, e
				}})
			}
			for _, list := range [][][]api.Simple{{c}, {c, c}, {nil, c[:min(3, len(c))], c[:0], c}} {
				out = append(out, used{"Join", given{conditions: list}, func(in given) ([]api.Simple, api.Errno) { return Join(in.conditions...) }})
			}
		}
		for _, data := range [][]api.Datum{{d, d}, {no(), d, d}, {d, d, d, d}, append([]api.Datum{sym("w"), d}, small...)} {
			out = append(out, used{"Error", given{data: data}, func(in given) ([]api.Simple, api.Errno) {
				return Error(in.data[0], in.data[1], in.data[2:], len(in.data)%2 == 0)
			}})
		}
	}
	return out
}

// R4: what is handed in is not changed, room included; R5: the same answer comes again.
func TestGivenIsLeft(t *testing.T) {
	for _, u := range uses() {
		in, kept := u.in.roomy(), u.in.roomy()
		want, wantError := u.of(u.in)
		for range 2 {
			got, e := u.of(in)
			if e != wantError || !slices.EqualFunc(got, want, alikeParts) {
				t.Errorf("%s: another answer with other room, or at another time", u.name)
			}
			if !sameGiven(in, kept) {
				t.Errorf("%s: what was handed in is changed", u.name)
			}
		}
	}
}

// R4: an answer shares memory with nothing that was handed in, with no other answer, and with no other part of itself, even if what was handed in does.
func TestAnswersAreNew(t *testing.T) {
	for _, u := range uses() {
		in := u.in.roomy()
		if !apart(in.pieces()) {
			t.Fatal("the test has laid conditions that share memory")
		}
		got, _ := u.of(in)
		again, _ := u.of(in)
		if !apart(in.pieces(), partPieces(got), partPieces(again)) {
			t.Errorf("%s: an answer shares memory with what was handed in, with another answer or within itself", u.name)
		}
		got, _ = u.of(u.in)
		again, _ = u.of(u.in)
		if !apart(partPieces(got), partPieces(again)) {
			t.Errorf("%s: an answer of what shares memory shares some, too", u.name)
		}
	}
}

// R4: an answer stays, whatever comes of what was handed in and of later answers.
func TestAnswersStay(t *testing.T) {
	for _, u := range uses() {
		in := u.in.roomy()
		got, _ := u.of(in)
		later, _ := u.of(in)
		in.spoil()
		want, _ := u.of(u.in)
		if !slices.EqualFunc(got, want, alikeParts) || !slices.EqualFunc(later, want, alikeParts) {
			t.Errorf("%s: an answer is changed with what was handed in", u.name)
		}
		spoilParts(later)
		if !slices.EqualFunc(got, want, alikeParts) {
			t.Errorf("%s: an answer is changed with a later one", u.name)
		}
	}
}

// R4: a list without parts or fields that is handed in with room is not handed on.
func TestRoomIsNotHandedOn(t *testing.T) {
	room := condition("1 a", "1 b", "1 c")
	bare := []api.Simple{part(4, room[0].Fields[:0]...)}
	joined, e := Join(room[:0], bare)
	found, f := Find(bare, 0)
	nothing, g := Join(room[:0])
	if e != api.OK || f != api.OK || g != api.OK {
		t.Fatalf("errors %d, %d, %d", e, f, g)
	}
	_ = append(joined, part(2))
	_ = append(joined[0].Fields, sym("new"))
	_ = append(found.Fields, sym("new"))
	_ = append(nothing, part(2))
	if !slices.EqualFunc(room, condition("1 a", "1 b", "1 c"), alikeParts) {
		t.Error("an answer has the room of what was handed in")
	}
}
