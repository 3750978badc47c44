package pattern

import (
	"slices"
	"strings"
	"testing"
	"unsafe"

	"sextant/api"
)

// roomyList is a copy with spare room, which is filled with something.
func roomyList[T any](list []T, filler T) []T {
	return append(slices.Clone(list), filler, filler, filler)[:len(list)]
}

// roomy is a deep copy of which all lists have spare room.
func roomy(d api.Datum) api.Datum {
	re, im := &d.Num.Re, &d.Num.Im
	for _, words := range []*[]uint32{&re.Top, &re.Bot, &im.Top, &im.Bot} {
		*words = roomyList(*words, 5)
	}
	d.Text, d.Raw, d.List = strings.Clone(d.Text), roomyList(d.Raw, 5), roomyData(d.List)
	return d
}

func roomyData(data []api.Datum) []api.Datum {
	out := roomyList(data, sym("room"))
	for i, d := range out {
		out[i] = roomy(d)
	}
	return out
}

func roomyTexts(texts []string) []string {
	out := roomyList(texts, "room")
	for i, text := range out {
		out[i] = strings.Clone(text)
	}
	return out
}

func roomyMatches(m []api.Match) []api.Match {
	out := roomyList(m, api.Match{Name: "room", Depth: 7})
	for i, one := range out {
		out[i] = api.Match{Name: strings.Clone(one.Name), Depth: one.Depth, Value: roomy(one.Value), List: roomyMatches(one.List)}
	}
	return out
}

// sameRoom holds two lists against each other, spare room included.
func sameRoom[T comparable](a, b []T) bool {
	return len(a) == len(b) && slices.Equal(a[:cap(a)], b[:cap(b)])
}

func sameRoomDatum(a, b api.Datum) bool {
	x, y := a.Num, b.Num
	return alike(a, b) && sameRoom(x.Re.Top, y.Re.Top) && sameRoom(x.Re.Bot, y.Re.Bot) && sameRoom(x.Im.Top, y.Im.Top) && sameRoom(x.Im.Bot, y.Im.Bot) && sameRoom(a.Raw, b.Raw) && sameRoomData(a.List, b.List)
}

func sameRoomData(a, b []api.Datum) bool {
	return len(a) == len(b) && slices.EqualFunc(a[:cap(a)], b[:cap(b)], sameRoomDatum)
}

func sameRoomMatches(a, b []api.Match) bool {
	return len(a) == len(b) && slices.EqualFunc(a[:cap(a)], b[:cap(b)], func(a, b api.Match) bool {
		return a.Name == b.Name && a.Depth == b.Depth && sameRoomDatum(a.Value, b.Value) && sameRoomMatches(a.List, b.List)
	})
}

// piece is memory that a list or a text has, from its first byte to the one behind its last.
type piece struct{ from, to uintptr }

func pieceOf[T any](list []T) piece {
	from := uintptr(unsafe.Pointer(unsafe.SliceData(list)))
	return piece{from, from + uintptr(cap(list))*unsafe.Sizeof(*new(T))}
}

func textPiece(s string) piece { return pieceOf(unsafe.Slice(unsafe.StringData(s), len(s))) }

// dataPieces are all of a list of data, room included.
func dataPieces(data []api.Datum) []piece {
	out := []piece{pieceOf(data)}
	for _, d := range data {
		out = append(out, datumPieces(d)...)
	}
	return out
}

func datumPieces(d api.Datum) []piece {
	out := []piece{textPiece(d.Text), pieceOf(d.Raw), pieceOf(d.Num.Re.Top), pieceOf(d.Num.Re.Bot), pieceOf(d.Num.Im.Top), pieceOf(d.Num.Im.Bot)}
	return append(out, dataPieces(d.List)...)
}

func matchPieces(m []api.Match) []piece {
	out := []piece{pieceOf(m)}
	for _, match := range m {
		out = append(append(out, textPiece(match.Name)), datumPieces(match.Value)...)
		out = append(out, matchPieces(match.List)...)
	}
	return out
}

// apart: does no piece of memory stand in two of them?
func apart(lists ...[]piece) bool {
	all := slices.DeleteFunc(slices.Concat(lists...), func(p piece) bool { return p.from == p.to })
	slices.SortFunc(all, func(a, b piece) int { return int(a.from) - int(b.from) })
	for i := 1; i < len(all); i++ {
		if all[i].from < all[i-1].to {
			return false
		}
	}
	return true
}

// overwrite writes over a list, room included.
func overwrite[T any](list []T, with T) {
	for i := range list[:cap(list)] {
		list[:cap(list)][i] = with
	}
}

func spoil(d api.Datum) {
	for _, words := range [][]uint32{d.Num.Re.Top, d.Num.Re.Bot, d.Num.Im.Top, d.Num.Im.Bot} {
		overwrite(words, 99)
	}
	overwrite(d.Raw, 99)
	spoilData(d.List)
}

// spoilData writes over all that can be written over.
func spoilData(data []api.Datum) {
	for _, d := range data[:cap(data)] {
		spoil(d)
	}
	overwrite(data, sym("spoilt"))
}

func spoilMatches(m []api.Match) {
	for _, match := range m[:cap(m)] {
		spoil(match.Value)
		spoilMatches(match.List)
	}
	overwrite(m, api.Match{Name: "spoilt", Depth: 3})
}

// given is what is handed in to a call.
type given struct {
	data     []api.Datum
	literals []string
	matches  []api.Match
}

func (g given) roomy() given {
	return given{roomyData(g.data), roomyTexts(g.literals), roomyMatches(g.matches)}
}

func (g given) pieces() []piece {
	out := slices.Concat(dataPieces(g.data), []piece{pieceOf(g.literals)}, matchPieces(g.matches))
	for _, text := range g.literals {
		out = append(out, textPiece(text))
	}
	return out
}

func (g given) spoil() {
	spoilData(g.data)
	overwrite(g.literals, "spoilt")
	spoilMatches(g.matches)
}

func sameGiven(a, b given) bool {
	return sameRoomData(a.data, b.data) && sameRoom(a.literals, b.literals) && sameRoomMatches(a.matches, b.matches)
}

// used is one use of a call: what is handed in, and what comes of it. A datum is answered as a match's Value.
type used struct {
	name string
	in   given
	of   func(in given) ([]api.Match, api.Errno)
}

func usedVars(p api.Datum, literals ...string) used {
	return used{"Vars", given{data: []api.Datum{p}, literals: literals}, func(in given) ([]api.Match, api.Errno) { return Vars(in.data[0], in.literals) }}
}

func usedFind(p, d api.Datum, literals ...string) used {
	return used{"Find", given{data: []api.Datum{p, d}, literals: literals}, func(in given) ([]api.Match, api.Errno) { return Find(in.data[0], in.literals, in.data[1]) }}
}

func usedFill(template api.Datum, m []api.Match) used {
	return used{"Fill", given{data: []api.Datum{template}, matches: m}, func(in given) ([]api.Match, api.Errno) {
		d, e := Fill(in.data[0], in.matches)
		return []api.Match{{Value: d}}, e
	}}
}

// uses has each call, with what it takes and with what it does not.
func uses() []used {
	var out []used
	for _, p := range read("abc (abc def ... ghi) ((abc #(def ...)) ... . ghi) #(abc (def ...) ... ghi) (abc abc) (... abc) (1/2 \"text\" #vu8(1 2) abc ...)") {
		out = append(out, usedVars(p), usedVars(p, "else", "def"), usedVars(p, "_"))
		for _, d := range append(someData()[:21], read("(1/3 #vu8(3 4) \"abc\" xyz) (1/3 (\"abc\" #vu8(5)) () xyz) ((1/3 #(1/2 1/3 (\"abc\"))) (#vu8(1) #()) . \"end\") #(1/3 (#vu8(1 2) xyz) () (\"abc\") #vu8(5)) (1/2 \"text\" #vu8(1 2) #vu8(3) 3/4 (xyz))")...) {
			out = append(out, usedFind(p, d), usedFind(p, d, "else", "def"), usedFind(p, d, "..."))
		}
		out = append(out, usedFind(p, api.Datum{}), usedFind(api.Datum{}, p))
	}
	d := vector(someData()[:21]...)
	shared := list(d, d)
	m := append(bound("abc 0 1/3 def 1 (1/2 \"text\" #vu8(1 2)) ghi 2 ((xyz) () (1/3 #(xyz)))"), valued("all", shared), listed("each", d, d, d), listed("none"))
	for _, template := range append(read("abc all (abc abc all) #(abc xyz all) (abc . all) (def ... . all) #(def ... each ...) ((def each abc) ...) (ghi ... ...) ((ghi ... 1/2 \"text\" #vu8(1)) ...) (each ... each ...) (none ...) #(none ...) (none ... . abc) (none ... . each) (... (abc ... all)) (def each) (1 ...) ((each ghi ...) ... ...)"), d, shared) {
		out = append(out, usedFill(template, m), usedFill(template, nil), usedFill(template, append(slices.Clone(m), api.Match{Depth: -1})))
	}
	return append(out, usedFill(api.Datum{}, m))
}

// R4: what is handed in is not changed, room included; R5: the same answer comes again.
func TestGivenIsLeft(t *testing.T) {
	for _, u := range uses() {
		in, kept := u.in.roomy(), u.in.roomy()
		want, wantError := u.of(u.in)
		for range 2 {
			got, e := u.of(in)
			if e != wantError || !slices.EqualFunc(got, want, alikeMatch) {
				t.Errorf("%s: another answer with other room, or at another time", u.name)
			}
			if !sameGiven(in, kept) {
				t.Errorf("%s: what was handed in is changed", u.name)
			}
		}
	}
}

// R4: an answer shares memory with nothing that was handed in, with no other answer, and with no other part of itself, even if what was handed in does.
func TestAnswersAreNew(t *testing.T) {
	answered := 0
	for _, u := range uses() {
		in := u.in.roomy()
		if !apart(in.pieces()) {
			t.Fatal("the test has laid data that share memory")
		}
		got, e := u.of(in)
		again, _ := u.of(in)
		if !apart(in.pieces(), matchPieces(got), matchPieces(again)) {
			t.Errorf("%s: an answer shares memory with what was handed in, with another answer or within itself", u.name)
		}
		got, _ = u.of(u.in)
		again, _ = u.of(u.in)
		if !apart(matchPieces(got), matchPieces(again)) {
			t.Errorf("%s: an answer of what shares memory shares some, too", u.name)
		}
		if e == api.OK {
			answered++
		}
	}
	if answered < 60 {
		t.Errorf("%d calls alone answered something", answered)
	}
}

// R4: an answer stays, whatever comes of what was handed in and of later answers.
func TestAnswersStay(t *testing.T) {
	for _, u := range uses() {
		in := u.in.roomy()
		got, _ := u.of(in)
		later, _ := u.of(in)
		in.spoil()
		want, _ := u.of(u.in)
		if !slices.EqualFunc(got, want, alikeMatch) || !slices.EqualFunc(later, want, alikeMatch) {
			t.Errorf("%s: an answer is changed with what was handed in", u.name)
		}
		for _, match := range later {
			spoil(match.Value)
		}
		spoilMatches(later)
		if !slices.EqualFunc(got, want, alikeMatch) {
			t.Errorf("%s: an answer is changed with a later one", u.name)
		}
	}
}

// R4: a list without items that is handed in with room is not handed on.
func TestRoomIsNotHandedOn(t *testing.T) {
	room := read("1 2 3")
	bare := api.Datum{Kind: api.Vector, List: room[:0]}
	found, e := Find(sym("a"), nil, bare)
	filled, f := Fill(bare, nil)
	value, g := Fill(sym("a"), []api.Match{valued("a", bare)})
	if e != api.OK || f != api.OK || g != api.OK {
		t.Fatalf("errors %d, %d, %d", e, f, g)
	}
	for _, d := range []api.Datum{found[0].Value, filled, value} {
		_ = append(d.List, sym("new"))
	}
	if !slices.EqualFunc(room, read("1 2 3"), alike) {
		t.Error("an answer has the room of what was handed in")
	}
}
