package table

import (
	"slices"
	"strings"
	"testing"
	"unsafe"

	"sextant/api"
)

// roomy is a deep copy of which all lists have spare room, filled with something.
func roomy(d api.Datum) api.Datum {
	re, im := &d.Num.Re, &d.Num.Im
	re.Top, re.Bot, im.Top, im.Bot = roomyList(re.Top), roomyList(re.Bot), roomyList(im.Top), roomyList(im.Bot)
	d.Text, d.Raw, d.List = strings.Clone(d.Text), roomyList(d.Raw), roomyData(d.List)
	return d
}

func roomyList[T byte | uint32](list []T) []T {
	return append(slices.Clone(list), 5, 5, 5)[:len(list)]
}

func roomyData(data []api.Datum) []api.Datum {
	out := make([]api.Datum, 0, len(data)+2)
	for _, d := range data {
		out = append(out, roomy(d))
	}
	for i := len(out); i < cap(out); i++ {
		out[:cap(out)][i] = sym("room")
	}
	return out
}

// sameRoom holds two data against each other, spare room included.
func sameRoom(a, b api.Datum) bool {
	x, y := a.Num, b.Num
	return same(a, b) && sameRoomList(x.Re.Top, y.Re.Top) && sameRoomList(x.Re.Bot, y.Re.Bot) && sameRoomList(x.Im.Top, y.Im.Top) && sameRoomList(x.Im.Bot, y.Im.Bot) && sameRoomList(a.Raw, b.Raw) &&
		len(a.List) == len(b.List) && slices.EqualFunc(a.List[:cap(a.List)], b.List[:cap(b.List)], sameRoom)
}

func sameRoomList[T comparable](a, b []T) bool {
	return len(a) == len(b) && slices.Equal(a[:cap(a)], b[:cap(b)])
}

// stretch is memory that a list or a text has.
type stretch struct{ from, to uintptr }

func stretchOf[T any](list []T) stretch {
	from := uintptr(unsafe.Pointer(unsafe.SliceData(list)))
	return stretch{from, from + uintptr(cap(list))*unsafe.Sizeof(*new(T))}
}

// stretches are all of some data, room included, but for the list in which they are.
func stretches(data ...api.Datum) []stretch {
	var out []stretch
	for _, d := range data {
		text := uintptr(unsafe.Pointer(unsafe.StringData(d.Text)))
		out = append(out, stretch{text, text + uintptr(len(d.Text))}, stretchOf(d.Raw), stretchOf(d.List))
		out = append(out, stretchOf(d.Num.Re.Top), stretchOf(d.Num.Re.Bot), stretchOf(d.Num.Im.Top), stretchOf(d.Num.Im.Bot))
		out = append(out, stretches(d.List...)...)
	}
	return out
}

// kept are the stretches of all that a table keeps.
func kept(x *Table) []stretch {
	var out []stretch
	for _, some := range x.entries {
		out = append(out, stretchOf(some))
		for _, one := range some {
			out = append(out, stretches(one.key, one.value)...)
		}
	}
	return out
}

// shared: does any piece of memory stand in two of them?
func shared(lists ...[]stretch) bool {
	all := slices.DeleteFunc(slices.Concat(lists...), func(s stretch) bool { return s.from == s.to })
	slices.SortFunc(all, func(a, b stretch) int { return int(a.from) - int(b.from) })
	for i := 1; i < len(all); i++ {
		if all[i].from < all[i-1].to {
			return true
		}
	}
	return false
}

// spoil writes over all that can be written over, room included.
func spoil(data []api.Datum) {
	for i := range data[:cap(data)] {
		d := &data[:cap(data)][i]
		for _, words := range [][]uint32{d.Num.Re.Top, d.Num.Re.Bot, d.Num.Im.Top, d.Num.Im.Bot} {
			for j := range words[:cap(words)] {
				words[:cap(words)][j] = 99
			}
		}
		for j := range d.Raw[:cap(d.Raw)] {
			d.Raw[:cap(d.Raw)][j] = 99
		}
		spoil(d.List)
		*d = sym("spoilt")
	}
}

// someKeys are keys of a table of that kind, two of each by other forms, where there are such.
func someKeys(kind int) []api.Datum {
	if kind == 1 {
		return append(someData(), firsts(oneHash())...)
	}
	var out []api.Datum
	for n := range 10 {
		out = append(out, keyOf(kind, n), otherForm(kind, n))
	}
	return out
}

// R4: keys and values that are handed in are not changed, spare room included, whatever the call answers.
func TestGivenIsLeft(t *testing.T) {
	for _, kind := range kinds() {
		x := filled(t, kind, 3)
		for _, key := range slices.Concat(someKeys(kind), ofAnotherSort(kind), unsoundStrings(), unsoundNumbers()) {
			for _, value := range append(someData(), unsoundNumbers()...) {
				k, v := roomy(key), roomy(value)
				x.x.Set(k, v)
				x.x.Get(k)
				x.x.Delete(k)
				x.x.Get(k)
				if !sameRoom(k, roomy(key)) || !sameRoom(v, roomy(value)) {
					t.Errorf("kind %d: %s or %s is changed", kind, brief(key), brief(value))
				}
			}
		}
	}
}

// R4: what is handed in is not kept: it may be written over, and the table stays.
func TestGivenIsNotKept(t *testing.T) {
	for _, kind := range kinds() {
		x := tableOf(t, kind)
		var given []api.Datum
		for _, value := range someData() {
			for _, key := range someKeys(kind) {
				k, v := roomy(key), roomy(value)
				x.set(k, v)
				given = append(given, k, v)
			}
		}
		if shared(stretches(given...), kept(x.x)) {
			t.Errorf("kind %d: a table shares memory with what was handed in", kind)
		}
		x.stays("writing over what was handed in", func() { spoil(given) })
	}
}

// R4: what Get and Keys answer is new memory: it may be written over, and the table and other answers stay.
func TestAnswersAreNew(t *testing.T) {
	for _, kind := range kinds() {
		x := tableOf(t, kind)
		for i, key := range someKeys(kind) {
			x.set(key, someData()[i%len(someData())])
		}
		var first, second []api.Datum
		for _, answers := range []*[]api.Datum{&first, &second} {
			*answers = x.x.Keys()
			for _, key := range x.x.Keys() {
				value, _ := x.x.Get(key)
				*answers = append(*answers, value)
			}
		}
		if shared(stretches(first...), stretches(second...), kept(x.x)) {
			t.Errorf("kind %d: answers share memory", kind)
		}
		want := roomyData(second)
		x.stays("writing over answers", func() { spoil(first) })
		if !slices.EqualFunc(second, want, same) {
			t.Errorf("kind %d: answers are changed with others", kind)
		}
	}
}

// R4: two answers of Keys share nothing, their room included.
func TestKeysAreNew(t *testing.T) {
	for _, kind := range kinds() {
		x := filled(t, kind, 5)
		first, second := x.x.Keys(), x.x.Keys()
		if shared([]stretch{stretchOf(first)}, []stretch{stretchOf(second)}, stretches(first...), stretches(second...), kept(x.x)) {
			t.Errorf("kind %d: Keys answers memory that something else has", kind)
		}
		for _, key := range append(first, second...) {
			x.get(key, whole(slices.IndexFunc(second, func(d api.Datum) bool { return same(d, key) })))
		}
	}
}

// R4: no later call changes what was answered.
func TestAnswersStay(t *testing.T) {
	for _, kind := range kinds() {
		x := filled(t, kind, 5)
		x.set(keyOf(kind, 2), read("(a #(1/2+3/4i \"b\") #vu8(1 2))"))
		keys := x.x.Keys()
		value, _ := x.x.Get(keyOf(kind, 2))
		wantKeys, want := roomyData(keys), roomy(value)
		x.set(otherForm(kind, 2), read("(b #(5/2+7/4i \"c\") #vu8(3 4))"))
		x.gone(keyOf(kind, 0))
		x.set(otherForm(kind, 0), whole(0))
		x.x.Keys()
		x.gone(keyOf(kind, 2))
		x.x.Clear()
		x.set(keyOf(kind, 2), whole(7))
		if !slices.EqualFunc(keys, wantKeys, same) || !same(value, want) {
			t.Errorf("kind %d: later calls have changed what was answered", kind)
		}
	}
}

// R4: parts that share memory when they are handed in share none in an answer.
func TestSharedDataArePutApart(t *testing.T) {
	part := read("(a #(1/2+3/4i \"b\") #vu8(1 2))")
	both := vector(part, part, pair(part, part))
	x := tableOf(t, 1)
	x.set(both, both)
	x.set(part, both)
	x.set(sym("a"), part)
	answers := x.x.Keys()
	for _, key := range x.x.Keys() {
		value, _ := x.x.Get(key)
		answers = append(answers, value)
	}
	if shared(stretches(answers...), kept(x.x)) {
		t.Error("parts of answers, or of a table, share memory")
	}
}

// R4: a copy is new memory.
func TestCopyIsNew(t *testing.T) {
	for _, kind := range kinds() {
		x := tableOf(t, kind)
		for i, key := range someKeys(kind) {
			x.set(key, someData()[i%len(someData())])
		}
		if shared(kept(x.x), kept(x.x.Copy()), kept(x.x.Copy())) {
			t.Errorf("kind %d: a copy shares memory with its table, or with another one", kind)
		}
	}
}

// A table keeps no key and no value that went.
func TestNothingIsKept(t *testing.T) {
	for _, kind := range kinds() {
		x := tableOf(t, kind)
		for range 3 {
			for _, key := range someKeys(kind) {
				x.set(key, sym("value"))
			}
			for _, key := range x.x.Keys() {
				x.gone(key)
			}
			if len(x.x.entries) != 0 {
				t.Errorf("kind %d: %d lists are kept of keys that went", kind, len(x.x.entries))
			}
		}
	}
}

// R5: tables have nothing in common.
func TestTablesAreApart(t *testing.T) {
	for _, kind := range kinds() {
		x, y := filled(t, kind, 4), filled(t, kind, 4)
		y.stays("what is done to another table", func() {
			x.set(keyOf(kind, 1), sym("new"))
			x.gone(keyOf(kind, 2))
			x.set(keyOf(kind, 7), sym("new"))
			x.x.Clear()
			x.set(keyOf(kind, 3), sym("new"))
		})
		y.keys(keysOf(kind, 0, 1, 2, 3)...)
	}
}

// R5: the same calls answer the same, whatever order a map is gone through.
func TestSameCallsAnswerTheSame(t *testing.T) {
	for _, kind := range kinds() {
		laid := func() []row {
			x := tableOf(t, kind)
			for i, key := range slices.Concat(someKeys(kind), someKeys(kind)) {
				x.x.Set(key, whole(i))
				if i%3 == 0 {
					x.x.Delete(someKeys(kind)[i*7%len(someKeys(kind))])
				}
			}
			return x.copy().rows()
		}
		want := laid()
		for range 20 {
			if got := laid(); !sameRows(got, want) {
				t.Fatalf("kind %d: other answers at another time", kind)
			}
		}
	}
}
