package equal

import (
	"slices"
	"testing"

	"sextant/api"
)

// roomy is a deep copy of which all lists have spare room, filled with something.
func roomy(d api.Datum, filling byte) api.Datum {
	d.Num.Re.Top, d.Num.Re.Bot = roomyList(d.Num.Re.Top, uint32(filling)), roomyList(d.Num.Re.Bot, uint32(filling))
	d.Num.Im.Top, d.Num.Im.Bot = roomyList(d.Num.Im.Top, uint32(filling)), roomyList(d.Num.Im.Bot, uint32(filling))
	d.Raw = roomyList(d.Raw, filling)
	items := make([]api.Datum, 0, len(d.List)+2)
	for _, item := range d.List {
		items = append(items, roomy(item, filling))
	}
	d.List = items
	for i := len(items); i < cap(items); i++ {
		items[:cap(items)][i] = sym(string(rune(filling)))
	}
	return d
}

func roomyList[T byte | uint32](list []T, filling T) []T {
	return append(slices.Clone(list), filling, filling, filling)[:len(list)]
}

// sameRoom holds two data against each other, spare room included.
func sameRoom(a, b api.Datum) bool {
	return sameRoomList(a.Num.Re.Top, b.Num.Re.Top) && sameRoomList(a.Num.Re.Bot, b.Num.Re.Bot) && sameRoomList(a.Num.Im.Top, b.Num.Im.Top) && sameRoomList(a.Num.Im.Bot, b.Num.Im.Bot) && sameRoomList(a.Raw, b.Raw) && same(a, b) &&
		slices.EqualFunc(a.List[:cap(a.List)], b.List[:cap(b.List)], sameRoom)
}

func sameRoomList[T comparable](a, b []T) bool {
	return len(a) == len(b) && slices.Equal(a[:cap(a)], b[:cap(b)])
}

// anyData are sound ones and others.
func anyData() []api.Datum {
	deep := sym("a")
	for range 300 {
		deep = vector(deep)
	}
	bad := []api.Datum{deep, {}, {Kind: api.Number}, vector(pair(whole(1), api.Datum{Kind: api.Pair})), str("a\xff"), boolean(2), {Kind: api.Nil, Raw: []byte{1}}}
	wholes := []api.Datum{list(someData()...), vector(someData()...), dotted(vector(someData()...), someData()...), complexNumber(4294967296, -3), number(rational("4294967296/18446744073709551617"), rational("-1/4294967297"))}
	return slices.Concat(someData(), wholes, bad)
}

// R4: what is handed in is not changed, spare room included, be it sound or not; R5: the answers are the same again; P10.3: nothing but the tree is told.
func TestNothingIsChanged(t *testing.T) {
	for i, a := range anyData() {
		for j, b := range anyData() {
			left, right, leftKept, rightKept := roomy(a, 5), roomy(b, 6), roomy(a, 5), roomy(b, 6)
			for range 2 {
				if Cmp(left, right) != Cmp(a, b) || Equal(left, right) != Equal(a, b) || Hash(left) != Hash(a) || Hash(right) != Hash(b) {
					t.Errorf("%d, %s and %d, %s: other answers with other room", i, brief(a), j, brief(b))
				}
				if !sameRoom(left, leftKept) || !sameRoom(right, rightKept) {
					t.Errorf("%d, %s and %d, %s: what was handed in is changed", i, brief(a), j, brief(b))
				}
			}
		}
	}
}

// R4: nil and empty lists are the same.
func TestEmptyLists(t *testing.T) {
	bare := api.Rat{Top: []uint32{}, Bot: []uint32{}}
	for i, d := range someData() {
		filled := apart(d)
		if d.Kind != api.Number {
			filled.Num = api.Num{Re: bare, Im: bare}
		}
		if len(d.Raw) == 0 {
			filled.Raw = []byte{}
		}
		if len(d.List) == 0 {
			filled.List = []api.Datum{}
		}
		compares(t, d, filled, 0)
		compares(t, vector(d), vector(filled), 0)
		if Hash(d) != Hash(filled) || Hash(list(d)) != Hash(list(filled)) {
			t.Errorf("%s: two hashes", brief(d))
		}
		for j, another := range someData() {
			if got, want := Cmp(filled, another), Cmp(whole(int64(i)), whole(int64(j))); got != want {
				t.Errorf("Cmp(%s, %s) is %d, want %d", brief(filled), brief(another), got, want)
			}
		}
	}
	zero, nought := whole(0), whole(0)
	zero.Num.Re.Top, zero.Num.Im.Top = []uint32{}, []uint32{}
	nought.Num.Re.Top, nought.Num.Im.Top = nil, nil
	compares(t, zero, nought, 0)
	if Hash(zero) != Hash(nought) {
		t.Error("0: two hashes")
	}
}

// P10.3: the same in every run of the program. Which numbers these are is free; that they stay is not.
func TestHashInEveryRun(t *testing.T) {
	if got := Hash(empty()); got != hashOfNil {
		t.Errorf("Hash of () is %d", got)
	}
	d := vector(list(whole(-1), ratio(1, 2), sym("a")), str("é"), raw(1, 2), char('a'), boolean(1), void(), other("b"))
	if got := Hash(d); got != hashOfMany {
		t.Errorf("Hash of %s is %d", brief(d), got)
	}
}

const (
	hashOfNil  = 12638152014629571168
	hashOfMany = 15262464142593327819
)
