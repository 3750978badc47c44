package write

import (
	"slices"
	"strings"
	"testing"
	"unsafe"

	"sextant/api"
)

// roomy is a deep copy of which all lists have spare room, filled with something.
func roomy(d api.Datum) api.Datum {
	d.Num.Re.Top, d.Num.Re.Bot = roomyList(d.Num.Re.Top), roomyList(d.Num.Re.Bot)
	d.Num.Im.Top, d.Num.Im.Bot = roomyList(d.Num.Im.Top), roomyList(d.Num.Im.Bot)
	d.Raw = roomyList(d.Raw)
	items := make([]api.Datum, 0, len(d.List)+2)
	for _, item := range d.List {
		items = append(items, roomy(item))
	}
	d.List = items
	for i := len(items); i < cap(items); i++ {
		items[:cap(items)][i] = sym("room")
	}
	return d
}

func roomyList[T byte | uint32](list []T) []T {
	return append(slices.Clone(list), 5, 6, 7)[:len(list)]
}

// sameRoom holds two data against each other, spare room included.
func sameRoom(a, b api.Datum) bool {
	return sameRoomList(a.Num.Re.Top, b.Num.Re.Top) && sameRoomList(a.Num.Re.Bot, b.Num.Re.Bot) && sameRoomList(a.Num.Im.Top, b.Num.Im.Top) && sameRoomList(a.Num.Im.Bot, b.Num.Im.Bot) && sameRoomList(a.Raw, b.Raw) && same(a, b) &&
		slices.EqualFunc(a.List[:cap(a.List)], b.List[:cap(b.List)], sameRoom)
}

func sameRoomList[T comparable](a, b []T) bool {
	return len(a) == len(b) && slices.Equal(a[:cap(a)], b[:cap(b)])
}

// R4: what is handed in is not changed, spare room included, be it sound or not; R5: the answer is the same again.
func TestNothingIsChanged(t *testing.T) {
	deep := sym("a")
	for range 300 {
		deep = vector(deep)
	}
	all := append(someData(), deep, api.Datum{}, api.Datum{Kind: api.Number}, vector(pair(whole(1), api.Datum{Kind: api.Pair})), str("a\xff"), list(someData()...), vector(someData()...), quote(vector(someData()...)))
	for _, d := range all {
		in, kept := roomy(d), roomy(d)
		for range 2 {
			written, e := Write(in)
			shown, f := Display(in)
			writtenOfAnother, eOfAnother := Write(d)
			shownOfAnother, fOfAnother := Display(d)
			if written != writtenOfAnother || shown != shownOfAnother || e != eOfAnother || f != fOfAnother || e != f {
				t.Errorf("%s, %s: another answer the second time", brief(written), brief(shown))
			}
			if !sameRoom(in, kept) {
				t.Errorf("%s: what was handed in is changed", brief(written))
			}
		}
	}
}

// within: does the text stand in memory that the other one has?
func within(text, other string) bool {
	from, at := uintptr(unsafe.Pointer(unsafe.StringData(other))), uintptr(unsafe.Pointer(unsafe.StringData(text)))
	return at >= from && at < from+uintptr(len(other))
}

// R4: a text that is answered is new memory, also where it is the text that was handed in.
func TestTextsAreNew(t *testing.T) {
	for _, text := range []string{"a", "abc", "+", "-", "...", "->", "->a", "é", strings.Repeat("a", 1000)} {
		for _, d := range []api.Datum{sym(text), str(text), other(text)} {
			written, _ := Write(d)
			shown, _ := Display(d)
			if within(written, text) || within(shown, text) || within(shown, written) {
				t.Errorf("%s of kind %d: an answer is a part of what was handed in, or of another answer", brief(text), d.Kind)
			}
		}
	}
	for _, d := range someData() {
		first, _ := Write(d)
		second, _ := Write(d)
		if within(first, second) {
			t.Errorf("%s: two answers share memory", first)
		}
	}
}

// R4: an answer stays as it is, whatever comes of what was handed in.
func TestAnswersStay(t *testing.T) {
	d := vector(list(sym("a"), whole(1)), raw(1, 2), complexNumber(1, 2, 3, 4))
	written, _ := Write(d)
	shown, _ := Display(d)
	d.List[0].List[0].Text = "b"
	d.List[1].Raw[0] = 9
	d.List[2].Num.Re.Top[0] = 7
	if want := "#((a 1) #vu8(1 2) 1/2+3/4i)"; written != want || shown != want {
		t.Errorf("the answers are %s and %s now", written, shown)
	}
	bothAre(t, d, "#((b 1) #vu8(9 2) 7/2+3/4i)")
}
