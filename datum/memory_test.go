package datum

import (
	"math/rand/v2"
	"slices"
	"strings"
	"testing"
	"unsafe"

	"sextant/api"
)

// roomy is a deep copy of which all lists have spare room, filled with something.
func roomy(d api.Datum) api.Datum {
	d.Num.Re.Top, d.Num.Re.Bot = roomyList(d.Num.Re.Top), roomyList(d.Num.Re.Bot)
	d.Num.Im.Top, d.Num.Im.Bot = roomyList(d.Num.Im.Top), roomyList(d.Num.Im.Bot)
	d.Raw = roomyList(d.Raw)
	items := make([]api.Datum, 0, len(d.List)+2)
	for _, item := range d.List {
		items = append(items, roomy(item))
	}
	d.List = items
	for i := range items[len(items):cap(items)] {
		items[:cap(items)][len(items)+i] = sym("room")
	}
	return d
}

func roomyList[T byte | uint32](list []T) []T {
	out := append(slices.Clone(list), 5, 6, 7)
	return out[:len(list)]
}

// sameRoom holds two data against each other, spare room included.
func sameRoom(a, b api.Datum) bool {
	return sameRoomList(a.Num.Re.Top, b.Num.Re.Top) && sameRoomList(a.Num.Re.Bot, b.Num.Re.Bot) && sameRoomList(a.Num.Im.Top, b.Num.Im.Top) && sameRoomList(a.Num.Im.Bot, b.Num.Im.Bot) && sameRoomList(a.Raw, b.Raw) && same(a, b) &&
		slices.EqualFunc(a.List[:cap(a.List)], b.List[:cap(b.List)], sameRoom)
}

func sameRoomList[T comparable](a, b []T) bool {
	return len(a) == len(b) && slices.Equal(a[:cap(a)], b[:cap(b)])
}

// R4: what is handed in to Sound is not changed, spare room included; R5: the answer is the same again.
func TestMemoryOfSound(t *testing.T) {
	deep := sym("a")
	for range 300 {
		deep = vector(deep)
	}
	for _, d := range append(soundOnes(), deep, api.Datum{}, vector(pair(whole(1), api.Datum{Kind: api.Pair})), api.Datum{Kind: api.Number}) {
		in, kept := roomy(d), roomy(d)
		first := Sound(in)
		if !sameRoom(in, kept) {
			t.Errorf("%s: what was handed in is changed", brief(show(api.Datum{Kind: d.Kind, Text: d.Text})))
		}
		if Sound(in) != first || Sound(d) != first {
			t.Error("another answer the second time")
		}
	}
}

// spoil writes over all that a datum's lists hold, spare room included.
func spoil(d api.Datum) {
	for _, words := range [][]uint32{d.Num.Re.Top, d.Num.Re.Bot, d.Num.Im.Top, d.Num.Im.Bot} {
		for i := range words[:cap(words)] {
			words[:cap(words)][i] ^= 0x55555555
		}
	}
	for i := range d.Raw[:cap(d.Raw)] {
		d.Raw[:cap(d.Raw)][i] ^= 0x55
	}
	items := d.List[:cap(d.List)]
	for i := range items {
		spoil(items[i])
		items[i] = sym("spoilt")
	}
}

func someTexts() []string {
	random := rand.New(rand.NewPCG(8, 4))
	out := []string{"", ")", "a", "(a b . c)", "(a a a a a a a a a)", "#(1 1 1 1 1 1 1)", "#(#vu8(1 2 3) #vu8(1 2 3) \"a\" 1/3+2/5i 1/3+2/5i)", "''''a", "(() () #() #() #vu8() \"\" 0 0)", "((1 2) (1 2) (1 2))", "(1 . (2 . (3 4)))", "a b c \"d\" (e) #vu8(1)", "a ) b", largeNumber(), "(a " + largeNumber() + ")"}
	for range 100 {
		out = append(out, laid(random, randomDatum(random, 4)))
	}
	return out
}

// R4: what comes of one answer afterwards is nothing to another one, or to later calls (R5).
func TestMemoryOfAnswers(t *testing.T) {
	for _, s := range someTexts() {
		first, end, e := Read(s)
		second, _, _ := Read(s)
		kept := roomy(second)
		spoil(first)
		third, endAgain, eAgain := Read(strings.Clone(s))
		if !same(second, kept) || !same(third, kept) || end != endAgain || e != eAgain {
			t.Errorf("Read(%s): answers share memory, or are others later", brief(s))
		}
		ones, at, e := All(s)
		others, _, _ := All(s)
		keptAll := roomy(vector(others...)).List
		spoil(api.Datum{List: ones})
		again, atAgain, eAgain := All(strings.Clone(s))
		if !slices.EqualFunc(others, keptAll, same) || !slices.EqualFunc(again, keptAll, same) || at != atAgain || e != eAgain {
			t.Errorf("All(%s): answers share memory, or are others later", brief(s))
		}
	}
}

// R4: texts are new memory, too: they do not keep the one alive that was read.
func TestTextsAreNew(t *testing.T) {
	for _, s := range []string{"abc", "+", "-", "...", "->", "->a", "é", "\"abc\"", "\"é\""} {
		d, _, _ := Read(s)
		from, at := uintptr(unsafe.Pointer(unsafe.StringData(s))), uintptr(unsafe.Pointer(unsafe.StringData(d.Text)))
		if d.Text == "" || at >= from && at < from+uintptr(len(s)) {
			t.Errorf("Read(%q): the text is a part of what was handed in", s)
		}
	}
}

// eachList calls visit with each list in a datum, by its own way to write something into all of it.
func eachList(d *api.Datum, visit func(mark func())) {
	for _, words := range [][]uint32{d.Num.Re.Top, d.Num.Re.Bot, d.Num.Im.Top, d.Num.Im.Bot} {
		visit(func() {
			for i := range words[:cap(words)] {
				words[:cap(words)][i]++
			}
		})
	}
	visit(func() {
		for i := range d.Raw[:cap(d.Raw)] {
			d.Raw[:cap(d.Raw)][i]++
		}
	})
	items := d.List[:cap(d.List)]
	visit(func() {
		for i := range items {
			items[i].N++
		}
	})
	for i := range items {
		eachList(&items[i], visit)
	}
}

// R4: no two lists of one answer share memory: each of them is counted up once, and has gone up by one then.
func TestMemoryWithinAnAnswer(t *testing.T) {
	for _, s := range someTexts() {
		data, _, _ := All(s)
		whole := vector(data...)
		before := roomy(whole)
		eachList(&whole, func(mark func()) { mark() })
		if !raised(before, whole, 0) {
			t.Errorf("All(%s): two lists of one answer share memory", brief(s))
		}
	}
}

// raised: is everything in the lists of b one above that of a?
func raised(a, b api.Datum, by int) bool {
	words := func(a, b []uint32) bool {
		return slices.EqualFunc(a, b, func(x, y uint32) bool { return y == x+1 })
	}
	ok := b.N == a.N+by && words(a.Num.Re.Top, b.Num.Re.Top) && words(a.Num.Re.Bot, b.Num.Re.Bot) && words(a.Num.Im.Top, b.Num.Im.Top) && words(a.Num.Im.Bot, b.Num.Im.Bot)
	ok = ok && slices.EqualFunc(a.Raw, b.Raw, func(x, y byte) bool { return y == x+1 })
	return ok && slices.EqualFunc(a.List, b.List, func(x, y api.Datum) bool { return raised(x, y, 1) })
}

// R3: beside an error there is nothing: no datum, no place, no data.
func TestBesideErrors(t *testing.T) {
	for _, s := range []string{"", " ", ")", "(a b", "(a b]", "(a " + largeNumber() + ")", strings.Repeat("'", 300) + "a", strings.Repeat("a ", longestText), "a\xff", "1/0", "#vu8(1 2 256)", "\"abc"} {
		d, end, e := Read(s)
		if e == api.OK || end != 0 || !same(d, api.Datum{}) {
			t.Errorf("Read(%s): %s, %d, error %d", brief(s), show(d), end, e)
		}
	}
	for s, place := range map[string]int{")": 0, "a )": 1, "a b (": 3, "a " + largeNumber(): 1, strings.Repeat("a ", longestText): 0} {
		data, at, e := All(s)
		if e == api.OK || at != place || len(data) != 0 {
			t.Errorf("All(%s): %d data, %d, error %d", brief(s), len(data), at, e)
		}
	}
}
