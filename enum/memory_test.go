package enum

import (
	"slices"
	"strings"
	"testing"
	"unsafe"

	"sextant/api"
)

// roomyTexts is a copy, texts too, with spare room that is filled with something.
func roomyTexts(texts []string) []string {
	var out []string
	for _, text := range texts {
		out = append(out, strings.Clone(text))
	}
	return append(out, "a", "room", "a")[:len(texts)]
}

func roomy(s Set) Set {
	return Set{roomyTexts(s.Universe), append(slices.Clone(s.In), true, false, true)[:len(s.In)]}
}

func sameRoom(a, b Set) bool {
	return same(a, b) && sameRoomTexts(a.Universe, b.Universe) && slices.Equal(a.In[:cap(a.In)], b.In[:cap(b.In)])
}

func sameRoomTexts(a, b []string) bool {
	return slices.Equal(a, b) && slices.Equal(a[:cap(a)], b[:cap(b)])
}

// places are the first and the last byte of each piece of memory: of a list's room, and of each text in it.
func places(texts []string, in []bool) [][2]uintptr {
	var out [][2]uintptr
	add := func(from unsafe.Pointer, length uintptr) {
		if length > 0 {
			out = append(out, [2]uintptr{uintptr(from), uintptr(from) + length - 1})
		}
	}
	add(unsafe.Pointer(unsafe.SliceData(texts)), uintptr(cap(texts))*unsafe.Sizeof(""))
	add(unsafe.Pointer(unsafe.SliceData(in)), uintptr(cap(in)))
	for _, text := range texts {
		add(unsafe.Pointer(unsafe.StringData(text)), uintptr(len(text)))
	}
	return out
}

// apart: has no byte of memory two owners?
func apart(all ...[][2]uintptr) bool {
	pieces := slices.Concat(all...)
	slices.SortFunc(pieces, func(a, b [2]uintptr) int { return slices.Compare(a[:], b[:]) })
	for i, piece := range pieces {
		if i > 0 && piece[0] <= pieces[i-1][1] {
			return false
		}
	}
	return true
}

func spoil(texts []string, in []bool) {
	for i := range texts[:cap(texts)] {
		texts[:cap(texts)][i] = "spoilt"
	}
	for i := range in[:cap(in)] {
		in[:cap(in)][i] = !in[:cap(in)][i]
	}
}

// given are sets and symbols that are handed in.
type given struct {
	a, b    Set
	symbols []string
}

func (g given) roomy() given { return given{roomy(g.a), roomy(g.b), roomyTexts(g.symbols)} }

func (g given) places() [][2]uintptr {
	return slices.Concat(places(g.a.Universe, g.a.In), places(g.b.Universe, g.b.In), places(g.symbols, nil))
}

// someGiven are such as are answered, and such as are not.
func someGiven() []given {
	sets := []Set{{}, laid("a -b c"), laid("-a b c"), laid("c a"), laid("-x -y"), laid("a a"), {names("a b"), []bool{true}}, allOf(numbered(mostSymbols)), allOf(numbered(mostSymbols + 1))}
	var out []given
	for _, a := range sets {
		for _, b := range sets {
			for _, symbols := range [][]string{nil, names("c a"), names("a a"), names("c b d a"), numbered(mostSymbols + 1)} {
				out = append(out, given{a, b, symbols}, given{a, b, b.Universe})
			}
		}
	}
	return out
}

// answers are what all calls that answer lists answer to what is given.
func (g given) answers() []Set {
	var out []Set
	add := func(s Set, e api.Errno) { out = append(out, s) }
	add(New(g.symbols...))
	add(New(g.a.Universe...))
	add(Of(g.a, g.symbols...))
	add(Complement(g.a))
	for _, c := range calls() {
		add(c.do(g.a, g.b))
		add(c.do(g.a, g.a))
	}
	list, _ := List(g.a)
	return append(out, Set{Universe: list})
}

// R4: what is handed in is not changed, spare room included, whatever the call answers.
func TestGivenIsLeft(t *testing.T) {
	for _, g := range someGiven() {
		in, want := g.roomy(), g.roomy()
		in.answers()
		Sound(in.a)
		Subset(in.a, in.b)
		for _, symbol := range in.symbols {
			Index(in.a, symbol)
		}
		if !sameRoom(in.a, want.a) || !sameRoom(in.b, want.b) || !sameRoomTexts(in.symbols, want.symbols) {
			t.Errorf("%s, %s or %q is changed", told(g.a), told(g.b), g.symbols)
		}
	}
}

// R4: answers share no memory with what was handed in, with one another, nor their own lists; texts are memory, too.
func TestAnswersAreNew(t *testing.T) {
	for _, g := range someGiven() {
		in := g.roomy()
		all := [][][2]uintptr{in.places()}
		for _, s := range append(in.answers(), in.answers()...) {
			all = append(all, places(s.Universe, s.In))
		}
		if !apart(all...) {
			t.Errorf("answers to %s, %s and %q share memory", told(g.a), told(g.b), g.symbols)
		}
	}
}

// R4, R5: no later call changes what was answered, nor does writing over what was handed in or over other answers.
func TestAnswersStay(t *testing.T) {
	for _, g := range someGiven() {
		in := g.roomy()
		first, second := in.answers(), in.answers()
		for _, s := range first {
			spoil(s.Universe, s.In)
		}
		spoil(in.a.Universe, in.a.In)
		spoil(in.b.Universe, in.b.In)
		spoil(in.symbols, nil)
		in.answers()
		if !slices.EqualFunc(second, g.roomy().answers(), same) {
			t.Errorf("answers to %s, %s and %q are changed", told(g.a), told(g.b), g.symbols)
		}
	}
}

// R4: both sets and the symbols may be the same memory.
func TestOneMemory(t *testing.T) {
	for _, s := range sound() {
		in := roomy(s)
		for i, want := range []Set{s, s, {s.Universe, make([]bool, len(s.In))}, s} {
			calls()[i].check(t, in, in, want, api.OK)
		}
		checkSubset(t, in, in, true, api.OK)
		checkOf(t, in, in.Universe, allOf(s.Universe), api.OK)
		if !sameRoom(in, roomy(s)) {
			t.Errorf("%s is changed", told(s))
		}
	}
}
