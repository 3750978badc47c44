package imports

import (
	"slices"
	"strings"
	"testing"
	"unsafe"

	"sextant/api"
)

// roomyList is a copy with spare room, which is filled with something.
func roomyList[T any](list []T, filler T) []T {
	return append(slices.Clone(list), filler, filler, filler)[:len(list)]
}

// roomyEach is such a list of deep copies.
func roomyEach[T any](list []T, filler T, copied func(T) T) []T {
	out := roomyList(list, filler)
	for i, one := range out {
		out[i] = copied(one)
	}
	return out
}

// roomy is a deep copy of which all lists have spare room.
func roomy(d api.Datum) api.Datum {
	re, im := &d.Num.Re, &d.Num.Im
	for _, words := range []*[]uint32{&re.Top, &re.Bot, &im.Top, &im.Bot} {
		*words = roomyList(*words, 5)
	}
	d.Text, d.Raw, d.List = strings.Clone(d.Text), roomyList(d.Raw, 5), roomyData(d.List)
	return d
}

func roomyData(data []api.Datum) []api.Datum { return roomyEach(data, sym("room"), roomy) }

func roomyTexts(list []string) []string { return roomyEach(list, "room", strings.Clone) }

func roomyBindings(list []api.Binding) []api.Binding {
	return roomyEach(list, api.Binding{Name: "room", Of: "room"}, func(b api.Binding) api.Binding {
		return api.Binding{Name: strings.Clone(b.Name), Of: strings.Clone(b.Of)}
	})
}

func roomySets(list []api.Import) []api.Import {
	return roomyEach(list, api.Import{Kind: 7, Name: words("room")}, func(i api.Import) api.Import {
		return api.Import{Kind: i.Kind, Name: roomyTexts(i.Name), Ref: roomy(i.Ref), Of: roomySets(i.Of), Names: roomyTexts(i.Names)}
	})
}

func roomyLibraries(list []api.Library) []api.Library {
	return roomyEach(list, api.Library{Name: words("room")}, func(l api.Library) api.Library {
		return api.Library{Name: roomyTexts(l.Name), Version: roomyList(l.Version, 5), Exports: roomyBindings(l.Exports), Imports: roomySets(l.Imports), Body: roomyData(l.Body)}
	})
}

// sameRoom holds two lists against each other, spare room included.
func sameRoom[T any](a, b []T, same func(a, b T) bool) bool {
	return len(a) == len(b) && slices.EqualFunc(a[:cap(a)], b[:cap(b)], same)
}

func is[T comparable](a, b T) bool { return a == b }

func sameRoomDatum(a, b api.Datum) bool {
	x, y := a.Num, b.Num
	return alike(a, b) && sameRoom(x.Re.Top, y.Re.Top, is) && sameRoom(x.Re.Bot, y.Re.Bot, is) && sameRoom(x.Im.Top, y.Im.Top, is) && sameRoom(x.Im.Bot, y.Im.Bot, is) && sameRoom(a.Raw, b.Raw, is) && sameRoom(a.List, b.List, sameRoomDatum)
}

func sameRoomSet(a, b api.Import) bool {
	return alikeSet(a, b) && sameRoom(a.Name, b.Name, is) && sameRoomDatum(a.Ref, b.Ref) && sameRoom(a.Of, b.Of, sameRoomSet) && sameRoom(a.Names, b.Names, is)
}

func sameRoomLibrary(a, b api.Library) bool {
	return alikeLibrary(a, b) && sameRoom(a.Name, b.Name, is) && sameRoom(a.Version, b.Version, is) && sameRoom(a.Exports, b.Exports, is) && sameRoom(a.Imports, b.Imports, sameRoomSet) && sameRoom(a.Body, b.Body, sameRoomDatum)
}

// piece is memory that a list or a text has, from its first byte to the one behind its last.
type piece struct{ from, to uintptr }

func pieceOf[T any](list []T) piece {
	from := uintptr(unsafe.Pointer(unsafe.SliceData(list)))
	return piece{from, from + uintptr(cap(list))*unsafe.Sizeof(*new(T))}
}

func textPiece(s string) piece { return pieceOf(unsafe.Slice(unsafe.StringData(s), len(s))) }

func textPieces(list []string) []piece {
	out := []piece{pieceOf(list)}
	for _, text := range list {
		out = append(out, textPiece(text))
	}
	return out
}

func dataPieces(data []api.Datum) []piece {
	out := []piece{pieceOf(data)}
	for _, d := range data {
		out = append(out, datumPieces(d)...)
	}
	return out
}

func datumPieces(d api.Datum) []piece {
	out := []piece{textPiece(d.Text), pieceOf(d.Raw), pieceOf(d.Num.Re.Top), pieceOf(d.Num.Re.Bot), pieceOf(d.Num.Im.Top), pieceOf(d.Num.Im.Bot)}
	return append(out, dataPieces(d.List)...)
}

func bindingPieces(list []api.Binding) []piece {
	out := []piece{pieceOf(list)}
	for _, b := range list {
		out = append(out, textPiece(b.Name), textPiece(b.Of))
	}
	return out
}

func setPieces(list []api.Import) []piece {
	out := []piece{pieceOf(list)}
	for _, i := range list {
		out = slices.Concat(out, textPieces(i.Name), datumPieces(i.Ref), setPieces(i.Of), textPieces(i.Names))
	}
	return out
}

func libraryPieces(list []api.Library) []piece {
	out := []piece{pieceOf(list)}
	for _, l := range list {
		out = slices.Concat(out, textPieces(l.Name), []piece{pieceOf(l.Version)}, bindingPieces(l.Exports), setPieces(l.Imports), dataPieces(l.Body))
	}
	return out
}

// apart: does no piece of memory stand in two of them?
func apart(lists ...[]piece) bool {
	all := slices.DeleteFunc(slices.Concat(lists...), func(p piece) bool { return p.from == p.to })
	slices.SortFunc(all, func(a, b piece) int { return int(a.from) - int(b.from) })
	for i := 1; i < len(all); i++ {
		if all[i].from < all[i-1].to {
			return false
		}
	}
	return true
}

// overwrite writes over a list, room included.
func overwrite[T any](list []T, with T) {
	for i := range list[:cap(list)] {
		list[:cap(list)][i] = with
	}
}

// things are what is handed in to a call, or what it answers. That Version answers true stands as a version of one number.
type things struct {
	data     []api.Datum
	version  []int
	sets     []api.Import
	bindings [][]api.Binding
	libs     []api.Library
}

func (g things) roomy() things {
	out := things{data: roomyData(g.data), version: roomyList(g.version, 7), sets: roomySets(g.sets), libs: roomyLibraries(g.libs)}
	for _, list := range g.bindings {
		out.bindings = append(out.bindings, roomyBindings(list))
	}
	return out
}

func (g things) pieces() []piece {
	out := slices.Concat(dataPieces(g.data), []piece{pieceOf(g.version), pieceOf(g.bindings)}, setPieces(g.sets), libraryPieces(g.libs))
	for _, list := range g.bindings {
		out = append(out, bindingPieces(list)...)
	}
	return out
}

func spoilData(data []api.Datum) {
	for _, d := range data[:cap(data)] {
		for _, words := range [][]uint32{d.Num.Re.Top, d.Num.Re.Bot, d.Num.Im.Top, d.Num.Im.Bot} {
			overwrite(words, 99)
		}
		overwrite(d.Raw, 99)
		spoilData(d.List)
	}
	overwrite(data, sym("spoilt"))
}

func spoilSets(list []api.Import) {
	for _, i := range list[:cap(list)] {
		overwrite(i.Name, "spoilt")
		overwrite(i.Names, "spoilt")
		spoilData([]api.Datum{i.Ref})
		spoilSets(i.Of)
	}
	overwrite(list, api.Import{Kind: 8})
}

// spoil writes over all that can be written over.
func (g things) spoil() {
	spoilData(g.data)
	overwrite(g.version, 99)
	spoilSets(g.sets)
	for _, list := range g.bindings {
		overwrite(list, api.Binding{Name: "spoilt"})
	}
	for _, l := range g.libs[:cap(g.libs)] {
		overwrite(l.Name, "spoilt")
		overwrite(l.Version, 99)
		overwrite(l.Exports, api.Binding{Name: "spoilt"})
		spoilSets(l.Imports)
		spoilData(l.Body)
	}
	overwrite(g.libs, api.Library{})
}

func sameThings(a, b things) bool {
	return sameRoom(a.data, b.data, sameRoomDatum) && sameRoom(a.version, b.version, is) && sameRoom(a.sets, b.sets, sameRoomSet) && sameRoom(a.libs, b.libs, sameRoomLibrary) &&
		slices.EqualFunc(a.bindings, b.bindings, func(a, b []api.Binding) bool { return sameRoom(a, b, is) })
}

func alikeThings(a, b things) bool {
	return slices.EqualFunc(a.data, b.data, alike) && slices.Equal(a.version, b.version) && slices.EqualFunc(a.sets, b.sets, alikeSet) && slices.EqualFunc(a.libs, b.libs, alikeLibrary) && slices.EqualFunc(a.bindings, b.bindings, slices.Equal)
}

// used is one use of a call: what is handed in, and what comes of it.
type used struct {
	name string
	in   things
	of   func(in things) (things, api.Errno)
}

func usedDatum(d api.Datum) []used {
	in := things{data: []api.Datum{d}}
	return []used{
		{"Read", in, func(in things) (things, api.Errno) {
			i, e := Read(in.data[0])
			return things{sets: []api.Import{i}}, e
		}},
		{"Library", in, func(in things) (things, api.Errno) {
			l, e := Library(in.data[0])
			return things{libs: []api.Library{l}}, e
		}},
		{"Version", things{data: in.data, version: []int{1, 2}}, func(in things) (things, api.Errno) {
			fits, e := Version(in.version, in.data[0])
			if fits {
				return things{version: []int{1}}, e
			}
			return things{}, e
		}},
	}
}

func usedSet(i api.Import, exports []api.Binding) used {
	return used{"Names", things{sets: []api.Import{i}, bindings: [][]api.Binding{exports}}, func(in things) (things, api.Errno) {
		list, e := Names(in.sets[0], in.bindings[0])
		return things{bindings: [][]api.Binding{list}}, e
	}}
}

func usedBindings(given ...[]api.Binding) used {
	return used{"Merge", things{bindings: given}, func(in things) (things, api.Errno) {
		list, e := Merge(in.bindings...)
		return things{bindings: [][]api.Binding{list}}, e
	}}
}

func usedLibs(libs []api.Library, imports []api.Import) used {
	return used{"Order", things{libs: libs, sets: imports}, func(in things) (things, api.Errno) {
		list, e := Order(in.libs, in.sets)
		return things{version: list}, e
	}}
}

// uses has each call, with what it takes and with what it does not.
func uses() []used {
	var out []used
	for _, d := range append(read("(abc) (abc def (1 (>= 2))) (abc (and (1 (or 2)) (not (3)))) (only (abc def ((<= 2))) abc abc def) (rename (prefix (except (abc (1)) def) abc) (abc def) (def abc)) (for (library (only abc (1 2))) run) (1 2) (or (1 (not 2)) ((and (>= 1) (<= 2)) 2)) (and) (1 (>= 2)) (not (1 (<= 1))) (only) (abc 1) (1 x) (library (abc (1 2)) (export abc (rename (abc def) (ghi abc2)) ghi) (import (rnrs (6)) (only (prefix (abc (1)) def) ghi ghi) (abc def)) abc \"text\" (1/2 1/3+1/4i (#vu8(1 2) #(abc))) (define abc def)) (library (abc) (export abc (rename (def abc))) (import)) (library (abc) (export) (import))"), unsound()[:15]...) {
		out = append(out, usedDatum(d)...)
	}
	shared := list(sym("abc"), list(one("1"), one("2")))
	for _, name := range words("only except for library") {
		out = append(out, usedDatum(list(sym(name), shared))...)
		out = append(out, usedDatum(list(sym("library"), shared, list(sym("export"), sym("abc")), list(sym("import"), shared, shared), shared, shared))...)
	}
	exports := bound("abc=def def ghi=def long-name=another-long-name")
	for _, s := range append(sets("(abc) (only (abc)) (only (abc) ghi abc) (except (abc) def) (except (abc)) (prefix (abc) abc) (rename (abc)) (rename (abc) (abc def) (def abc)) (only (rename (prefix (except (abc) abc) abc) (abcdef abc)) abc) (only (abc) xyz) (only (abc) abc abc) (rename (abc) (abc def))"), faultySets()...) {
		out = append(out, usedSet(s, exports), usedSet(s, nil), usedSet(s, exports[:2]), usedSet(s, append(exports[:4:4], exports[0])))
	}
	out = append(out, usedBindings(), usedBindings(exports), usedBindings(exports, exports, exports[1:]), usedBindings(exports[2:], nil, exports[:0], exports[:3]), usedBindings(exports, bound("abc=abc")), usedBindings(bound("x=f x=g")))
	some := libs("(abc (1)) (def) (prefix (ghi ((>= 2))) p)", "(def) (ghi (not (1))) (rnrs (6))", "(ghi (1))", "(ghi (2))", "(jkl) (jkl)", "(mno) (xyz)")
	for _, text := range []string{"", "(abc)", "(only (abc (1)) x) (def)", "(def) (ghi (or (1)))", "(abc) (jkl)", "(mno)", "(xyz)", "(rnrs)"} {
		out = append(out, usedLibs(some, sets(text)), usedLibs(some[:4], sets(text)), usedLibs(append(some[:6:6], some[1]), sets(text)), usedLibs(some, append(sets(text), faultySets()[0])))
	}
	return out
}

// R4: what is handed in is not changed, room included; R5: the same answer comes again.
func TestGivenIsLeft(t *testing.T) {
	for _, u := range uses() {
		in, kept := u.in.roomy(), u.in.roomy()
		want, wantError := u.of(u.in)
		for range 2 {
			got, e := u.of(in)
			if e != wantError || !alikeThings(got, want) {
				t.Errorf("%s: another answer with other room, or at another time", u.name)
			}
			if !sameThings(in, kept) {
				t.Errorf("%s: what was handed in is changed", u.name)
			}
		}
	}
}

// R4: an answer shares memory with nothing that was handed in, with no other answer, and with no other part of itself, even if what was handed in does.
func TestAnswersAreNew(t *testing.T) {
	answered := map[string]int{}
	for _, u := range uses() {
		in := u.in.roomy()
		if !apart(in.pieces()) {
			t.Fatal("the test has laid things that share memory")
		}
		got, e := u.of(in)
		again, _ := u.of(in)
		if !apart(in.pieces(), got.pieces(), again.pieces()) {
			t.Errorf("%s: an answer shares memory with what was handed in, with another answer or within itself", u.name)
		}
		got, _ = u.of(u.in)
		again, _ = u.of(u.in)
		if !apart(got.pieces(), again.pieces()) {
			t.Errorf("%s: an answer of what shares memory shares some, too", u.name)
		}
		if e == api.OK {
			answered[u.name]++
		}
	}
	for _, name := range words("Read Library Version Names Merge Order") {
		if answered[name] < 3 {
			t.Errorf("%s has answered %d times alone", name, answered[name])
		}
	}
}

// R4: an answer stays, whatever comes of what was handed in and of later answers.
func TestAnswersStay(t *testing.T) {
	for _, u := range uses() {
		in := u.in.roomy()
		got, _ := u.of(in)
		later, _ := u.of(in)
		in.spoil()
		want, _ := u.of(u.in)
		if !alikeThings(got, want) || !alikeThings(later, want) {
			t.Errorf("%s: an answer is changed with what was handed in", u.name)
		}
		later.spoil()
		if !alikeThings(got, want) {
			t.Errorf("%s: an answer is changed with a later one", u.name)
		}
	}
}

// R4: a list without items that is handed in with room is not handed on.
func TestRoomIsNotHandedOn(t *testing.T) {
	room, raw := bound("x y z"), []byte{1, 2, 3}
	kept, e := Names(library("a", "()"), room[:0])
	merged, f := Merge(room[:0], room[1:1])
	bare := api.Datum{Kind: api.Bytes, Raw: raw[:0]}
	made, g := Library(form(one("(a)"), one("(export)"), one("(import)"), bare))
	if e != api.OK || f != api.OK || g != api.OK {
		t.Fatalf("errors %d, %d, %d", e, f, g)
	}
	_ = append(kept, api.Binding{Name: "new"})
	_ = append(merged, api.Binding{Name: "new"})
	_ = append(made.Body[0].Raw, 9)
	if !slices.Equal(room, bound("x y z")) || !slices.Equal(raw, []byte{1, 2, 3}) {
		t.Error("an answer has the room of what was handed in")
	}
}
