package lists

import (
	"slices"
	"strings"
	"testing"
	"unsafe"

	"sextant/api"
)

// roomy is a deep copy of which all lists have spare room, filled with something.
func roomy(d api.Datum, filling byte) api.Datum {
	d.Num.Re.Top, d.Num.Re.Bot = roomyList(d.Num.Re.Top, uint32(filling)), roomyList(d.Num.Re.Bot, uint32(filling))
	d.Num.Im.Top, d.Num.Im.Bot = roomyList(d.Num.Im.Top, uint32(filling)), roomyList(d.Num.Im.Bot, uint32(filling))
	d.Text, d.Raw = strings.Clone(d.Text), roomyList(d.Raw, filling)
	d.List = roomyData(d.List, filling)
	return d
}

func roomyList[T byte | uint32](list []T, filling T) []T {
	return append(slices.Clone(list), filling, filling, filling)[:len(list)]
}

func roomyData(data []api.Datum, filling byte) []api.Datum {
	out := make([]api.Datum, 0, len(data)+2)
	for _, d := range data {
		out = append(out, roomy(d, filling))
	}
	for i := len(out); i < cap(out); i++ {
		out[:cap(out)][i] = sym(string(rune(filling)))
	}
	return out
}

// sameRoom holds two data against each other, spare room included.
func sameRoom(a, b api.Datum) bool {
	return sameRoomList(a.Num.Re.Top, b.Num.Re.Top) && sameRoomList(a.Num.Re.Bot, b.Num.Re.Bot) && sameRoomList(a.Num.Im.Top, b.Num.Im.Top) && sameRoomList(a.Num.Im.Bot, b.Num.Im.Bot) && sameRoomList(a.Raw, b.Raw) && same(a, b) &&
		sameRoomData(a.List, b.List)
}

func sameRoomList[T comparable](a, b []T) bool {
	return len(a) == len(b) && slices.Equal(a[:cap(a)], b[:cap(b)])
}

func sameRoomData(a, b []api.Datum) bool {
	return len(a) == len(b) && slices.EqualFunc(a[:cap(a)], b[:cap(b)], sameRoom)
}

// stretch is memory that a list or a text has.
type stretch struct{ from, to uintptr }

func stretchOf[T any](list []T) stretch {
	from := uintptr(unsafe.Pointer(unsafe.SliceData(list)))
	return stretch{from, from + uintptr(cap(list))*unsafe.Sizeof(*new(T))}
}

// stretches are all of a list of data, room included.
func stretches(data []api.Datum) []stretch {
	out := []stretch{stretchOf(data)}
	for _, d := range data {
		text := uintptr(unsafe.Pointer(unsafe.StringData(d.Text)))
		out = append(out, stretch{text, text + uintptr(len(d.Text))}, stretchOf(d.Raw))
		out = append(out, stretchOf(d.Num.Re.Top), stretchOf(d.Num.Re.Bot), stretchOf(d.Num.Im.Top), stretchOf(d.Num.Im.Bot))
		out = append(out, stretches(d.List)...)
	}
	return out
}

// shared: does any piece of memory stand in two of them?
func shared(all []stretch) bool {
	all = slices.DeleteFunc(all, func(s stretch) bool { return s.from == s.to })
	slices.SortFunc(all, func(a, b stretch) int { return int(a.from) - int(b.from) })
	for i := 1; i < len(all); i++ {
		if all[i].from < all[i-1].to {
			return true
		}
	}
	return false
}

// used is one use of a call: what is handed in, and what comes of it.
type used struct {
	name string
	in   []api.Datum
	of   func(in []api.Datum) ([]api.Datum, api.Errno)
}

func one(d api.Datum, e api.Errno) ([]api.Datum, api.Errno) { return []api.Datum{d}, e }

// uses has each call, with data that it takes and with some that it does not.
func uses() []used {
	bad := api.Datum{Kind: api.Pair, List: []api.Datum{sym("a"), {Kind: api.Number}}}
	pairs := numbered(30, func(i int) int { return i * 7 % 5 })
	for _, d := range someData() {
		pairs = append(pairs, pair(d, d))
	}
	items := slices.Concat(someData(), pairs, someData())
	var out []used
	for _, c := range slices.Concat(unary(), binary()) {
		of := func(in []api.Datum) ([]api.Datum, api.Errno) { return one(c.of(in[0], in[1])) }
		for _, x := range []api.Datum{items[3], items[20], whole(2), sym("none"), bad} {
			for _, d := range []api.Datum{list(items...), list(pairs...), empty(), list(items[3]), dotted(sym("a"), items...), bad, sym("a")} {
				out = append(out, used{c.name, []api.Datum{x, d}, of})
			}
		}
	}
	appended := func(in []api.Datum) ([]api.Datum, api.Errno) { return one(Append(in...)) }
	for _, in := range [][]api.Datum{{list(items...)}, {list(items...), list(pairs...), vector(items...)}, {empty(), dotted(vector(items...), items...)}, {list(pairs...), empty()}, {sym("a"), list(items...)}, {list(items...), bad}, {bad, list(items...)}} {
		out = append(out, used{"Append", in, appended})
	}
	listed := func(in []api.Datum) ([]api.Datum, api.Errno) { return one(Of(in), api.OK) }
	return append(out, used{"Of", items, listed}, used{"Of", pairs[:1], listed}, used{"Of", append(items, bad), listed}, used{"Of", []api.Datum{vector(items...), list(items...), dotted(sym("a"), items...)}, listed})
}

// R4: what is handed in is not changed, room included; R5: the same answer comes again.
func TestNothingIsChanged(t *testing.T) {
	for _, u := range uses() {
		in, kept := roomyData(u.in, 5), roomyData(u.in, 5)
		want, wantErr := u.of(u.in)
		for range 2 {
			got, e := u.of(in)
			if e != wantErr || !slices.EqualFunc(got, want, same) {
				t.Errorf("%s: another answer with other room, or at another time", u.name)
			}
			if !sameRoomData(in, kept) {
				t.Errorf("%s: what was handed in is changed", u.name)
			}
		}
	}
}

// R4: an answer shares memory with nothing that was handed in, with no other answer, and with no other part of itself.
func TestAnswersAreNew(t *testing.T) {
	for _, u := range uses() {
		in := roomyData(u.in, 5)
		got, _ := u.of(in)
		again, _ := u.of(in)
		if shared(stretches(in)) {
			t.Fatal("the test has laid data that share memory")
		}
		if shared(slices.Concat(stretches(in), stretches(got), stretches(again))) {
			t.Errorf("%s: an answer shares memory with what was handed in, or with another answer", u.name)
		}
	}
}

// R4: data that share memory when they are handed in do not share any in an answer.
func TestSharedDataArePutApart(t *testing.T) {
	part := read("(a #(1/2+3/4i \"b\") #vu8(1 2))")
	rows := []api.Datum{part, part, vector(part, part)}
	itself, e := Append(list(rows...), list(rows...), part)
	if e != api.OK || shared(stretches([]api.Datum{itself})) {
		t.Error("Append: two parts of one answer share memory")
	}
	if shared(stretches([]api.Datum{Of(rows)})) {
		t.Error("Of: two parts of one answer share memory")
	}
	for _, c := range slices.Concat(unary(), binary()) {
		got, e := c.of(part.List[0], list(part, part, part))
		if e == api.OK && shared(stretches([]api.Datum{got})) {
			t.Errorf("%s: two parts of one answer share memory", c.name)
		}
	}
}

// spoil writes over all that can be written over, room included.
func spoil(data []api.Datum) {
	for i := range data[:cap(data)] {
		d := &data[:cap(data)][i]
		for _, words := range [][]uint32{d.Num.Re.Top, d.Num.Re.Bot, d.Num.Im.Top, d.Num.Im.Bot} {
			for j := range words[:cap(words)] {
				words[:cap(words)][j] = 99
			}
		}
		for j := range d.Raw[:cap(d.Raw)] {
			d.Raw[:cap(d.Raw)][j] = 99
		}
		spoil(d.List)
		*d = sym("spoilt")
	}
}

// R4: an answer stays, whatever comes of what was handed in and of later answers.
func TestAnswersStay(t *testing.T) {
	for _, u := range uses() {
		in := roomyData(u.in, 5)
		got, _ := u.of(in)
		later, _ := u.of(in)
		spoil(in)
		want, _ := u.of(u.in)
		if !slices.EqualFunc(got, want, same) || !slices.EqualFunc(later, want, same) {
			t.Errorf("%s: an answer is changed with what was handed in", u.name)
		}
		spoil(later)
		if !slices.EqualFunc(got, want, same) {
			t.Errorf("%s: an answer is changed with a later one", u.name)
		}
	}
}
