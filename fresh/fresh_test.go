package fresh

import (
	"bytes"
	"slices"
	"strings"
	"testing"
	"unsafe"

	"sextant/api"
)

func rat(words ...uint32) api.Rat { return api.Rat{Neg: true, Top: words, Bot: []uint32{7}} }

// full has something in every field, which no sound datum has, with a List of two.
func full() api.Datum {
	inner := api.Datum{Kind: api.Number, Num: api.Num{Re: rat(1, 2), Im: rat(3)}}
	raw := api.Datum{Kind: api.Bytes, Raw: []byte{1, 2}}
	return api.Datum{Kind: api.Vector, N: 3, Num: api.Num{Re: rat(4), Im: rat(5, 6)}, Text: "text", Raw: []byte{8, 9}, List: []api.Datum{inner, raw}}
}

func same(a, b api.Datum) bool {
	return a.Kind == b.Kind && a.N == b.N && sameRat(a.Num.Re, b.Num.Re) && sameRat(a.Num.Im, b.Num.Im) &&
		a.Text == b.Text && bytes.Equal(a.Raw, b.Raw) && slices.EqualFunc(a.List, b.List, same)
}

func sameRat(a, b api.Rat) bool {
	return a.Neg == b.Neg && slices.Equal(a.Top, b.Top) && slices.Equal(a.Bot, b.Bot)
}

// spoil writes over all that can be written over.
func spoil(d api.Datum) {
	for _, words := range [][]uint32{d.Num.Re.Top, d.Num.Re.Bot, d.Num.Im.Top, d.Num.Im.Bot} {
		for i := range words {
			words[i] = 99
		}
	}
	for i := range d.Raw {
		d.Raw[i] = 99
	}
	for i := range d.List {
		spoil(d.List[i])
		d.List[i] = api.Datum{}
	}
}

func TestDatum(t *testing.T) {
	d := full()
	first, second := Datum(d), Datum(d)
	spoil(d)
	if !same(first, full()) {
		t.Error("a copy is changed with what it is a copy of")
	}
	spoil(first)
	if !same(second, full()) {
		t.Error("a copy is changed with another one")
	}
}

func TestData(t *testing.T) {
	shared := full()
	got := Data([]api.Datum{shared, shared, {Kind: api.Nil}})
	spoil(got[0])
	if len(got) != 3 || !same(got[1], full()) || !same(shared, full()) || !same(got[2], api.Datum{Kind: api.Nil}) {
		t.Error("data that shared memory still do")
	}
}

func TestTexts(t *testing.T) {
	long := strings.Repeat("ab", 100)
	given := []string{long, long[3:5], "", "\xff"}
	got := Texts(given)
	if !slices.Equal(got, given) {
		t.Errorf("Texts: %q", got)
	}
	if unsafe.StringData(got[0]) == unsafe.StringData(long) || unsafe.StringData(got[1]) == unsafe.StringData(given[1]) {
		t.Error("a text is still a piece of another one")
	}
	got[0] = "other"
	if given[0] != long || Texts(given[:0]) != nil || Texts(nil) != nil {
		t.Error("a list of texts still has the room of another one")
	}
}

func TestList(t *testing.T) {
	given := []bool{true, false, true, true}
	first, second := List(given[:3]), List(given[:3])
	first[0], given[1] = false, true
	_ = append(first, false)
	if !slices.Equal(second, []bool{true, false, true}) || !slices.Equal(given, []bool{true, true, true, true}) || List(given[:0]) != nil || List[bool](nil) != nil {
		t.Error("a list still has the room of another one")
	}
}

// Room of lists without items is memory, too.
func TestRoom(t *testing.T) {
	room := full()
	bare := api.Datum{Raw: room.Raw[:0], List: room.List[:0], Num: api.Num{Re: api.Rat{Top: room.Num.Re.Top[:0]}}}
	got := Datum(bare)
	_ = append(got.Raw, 1)
	_ = append(got.List, api.Datum{})
	_ = append(got.Num.Re.Top, 1)
	if !same(room, full()) || Data(room.List[:0]) != nil {
		t.Error("a list without items still has the room of another one")
	}
}
