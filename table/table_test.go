package table

import (
	"math"
	"slices"
	"testing"

	"sextant/api"
)

// The chapter's example.
func TestExample(t *testing.T) {
	x := tableOf(t, 2)
	x.set(str("Ab"), whole(1))
	x.set(str("aB"), whole(2))
	x.keys(str("Ab"))
	x.get(str("AB"), whole(2))

	y := tableOf(t, 3)
	y.set(whole(12), sym("x"))
	y.get(whole(-8), sym("x"))
	y.noGet(str("a"), api.ErrType)
}

// P13.1: which kinds there are.
func TestNew(t *testing.T) {
	for _, kind := range kinds() {
		x := tableOf(t, kind)
		x.keys()
		for n := range 10 {
			x.none(keyOf(kind, n))
		}
	}
	for _, kind := range []int{0, 4, -1, -2, -3, -4, 5, 10, 255, 256, 257, 258, 259, 1 << 16, 1<<16 + 1, 1<<32 + 1, 1<<32 + 2, 1<<32 + 3, math.MaxInt, math.MinInt, math.MinInt + 1} {
		if x, e := New(kind); x != nil || e != api.ErrArg {
			t.Errorf("New(%d): error %d; want ErrArg and no table", kind, e)
		}
	}
}

// P13.2, P13.3: new keys come last, each with its value.
func TestSet(t *testing.T) {
	for _, kind := range kinds() {
		x := tableOf(t, kind)
		var keys []api.Datum
		for i, n := range []int{4, 7, 0, 9, 1, 8, 2, 6, 3, 5} {
			x.none(keyOf(kind, n))
			x.set(keyOf(kind, n), whole(i))
			keys = append(keys, keyOf(kind, n))
			x.keys(keys...)
		}
		for i, key := range keys {
			x.get(key, whole(i))
		}
	}
}

// P13.2: a key that is there keeps its place and its first form, and has the new value.
func TestSetAgain(t *testing.T) {
	for _, kind := range kinds() {
		x := filled(t, kind, 5)
		want := keysOf(kind, 0, 1, 2, 3, 4)
		for i, n := range []int{2, 0, 4, 2, 2, 3, 1, 4} {
			x.set(otherForm(kind, n), list(sym("new"), whole(i)))
			x.keys(want...)
			x.get(keyOf(kind, n), list(sym("new"), whole(i)))
			x.set(keyOf(kind, n), vector(whole(i)))
			x.keys(want...)
			x.get(otherForm(kind, n), vector(whole(i)))
		}
		for i, n := range []int{0, 1, 2, 3, 4} {
			x.get(keyOf(kind, n), vector(whole([]int{1, 6, 4, 5, 7}[i])))
		}
	}
}

// P13.2: any sound datum is a value, also one that is equal to what was there.
func TestValues(t *testing.T) {
	for _, kind := range kinds() {
		x := filled(t, kind, 3)
		for _, value := range slices.Concat(someData(), someData()) {
			for range 2 {
				x.set(keyOf(kind, 1), value)
				x.get(otherForm(kind, 1), value)
			}
			x.get(keyOf(kind, 0), whole(0))
			x.get(keyOf(kind, 2), whole(2))
		}
		x.keys(keysOf(kind, 0, 1, 2)...)
	}
}

// P13.2: Get and Delete of what is not there.
func TestNone(t *testing.T) {
	for _, kind := range kinds() {
		x := filled(t, kind, 5)
		for n := 5; n < 10; n++ {
			x.stays("what is not there", func() {
				x.none(keyOf(kind, n))
				x.none(otherForm(kind, n))
			})
		}
	}
}

// P13.2: Delete of each one of a row, by each of its forms: the others keep their order, their forms and their values.
func TestDelete(t *testing.T) {
	for _, kind := range kinds() {
		for gone := range 6 {
			for _, form := range []api.Datum{keyOf(kind, gone), otherForm(kind, gone)} {
				x := filled(t, kind, 6)
				x.gone(form)
				x.none(keyOf(kind, gone))
				x.keys(slices.Delete(keysOf(kind, 0, 1, 2, 3, 4, 5), gone, gone+1)...)
				for n := range 6 {
					if n != gone {
						x.get(keyOf(kind, n), whole(n))
					}
				}
			}
		}
	}
}

// P13.2, P13.3: one that went and comes again comes last, in its new form and with its new value.
func TestComesAgain(t *testing.T) {
	for _, kind := range kinds() {
		for gone := range 4 {
			x := filled(t, kind, 4)
			want := slices.Delete(keysOf(kind, 0, 1, 2, 3), gone, gone+1)
			x.gone(keyOf(kind, gone))
			x.set(otherForm(kind, gone), sym("again"))
			x.keys(append(want, otherForm(kind, gone))...)
			x.set(keyOf(kind, gone), sym("once more"))
			x.keys(append(want, otherForm(kind, gone))...)
			x.set(keyOf(kind, 7), sym("last"))
			x.keys(append(want, otherForm(kind, gone), keyOf(kind, 7))...)
		}
	}
}

// P13.3: Keys while a table goes empty and is filled again, from either end.
func TestGoesEmpty(t *testing.T) {
	for _, kind := range kinds() {
		x := filled(t, kind, 5)
		for round := range 3 {
			for n := range 5 {
				x.keys(keysOf(kind, []int{0, 1, 2, 3, 4}[n:]...)...)
				x.gone(keyOf(kind, n))
			}
			x.keys()
			for n := range 5 {
				x.set(keyOf(kind, n), whole(round))
			}
			for n := 4; n >= 0; n-- {
				x.keys(keysOf(kind, []int{0, 1, 2, 3, 4}[:n+1]...)...)
				x.gone(keyOf(kind, n))
			}
			x.keys()
			for n := range 5 {
				x.set(keyOf(kind, n), whole(-round))
			}
		}
	}
}

// P13.3: Keys hangs on nothing but the order in which keys came: many keys in several orders.
func TestManyKeys(t *testing.T) {
	const many = 997 // a prime, so that each step goes through all of them
	for _, kind := range []int{1, 2} {
		for _, step := range []int{1, 7, 400, many - 1} {
			x := tableOf(t, kind)
			var want []api.Datum
			for i := range many {
				key := keyOf(kind, i*step%many)
				x.set(key, whole(i))
				want = append(want, key)
			}
			x.keys(want...)
			for i := range many {
				x.get(otherForm(kind, i*step%many), whole(i))
			}
		}
	}
}

// P13.3: a copy has the kind, the keys, their order, their forms and their values.
func TestCopy(t *testing.T) {
	for _, kind := range kinds() {
		tableOf(t, kind).copy().keys()
		x := filled(t, kind, 6)
		x.set(otherForm(kind, 3), sym("three"))
		x.gone(keyOf(kind, 1))
		x.gone(keyOf(kind, 4))
		x.set(otherForm(kind, 1), sym("one"))
		c := x.copy()
		for _, y := range []tried{x, c, c.copy(), c.copy().copy()} {
			y.keys(append(keysOf(kind, 0, 2, 3, 5), otherForm(kind, 1))...)
			y.get(keyOf(kind, 3), sym("three"))
			y.get(keyOf(kind, 1), sym("one"))
			y.get(otherForm(kind, 5), whole(5))
			y.none(keyOf(kind, 4))
		}
		checkKind(t, x.copy(), kind)
		checkKind(t, tableOf(t, kind).copy(), kind)
	}
}

// checkKind: which keys are one, and which are of another sort, tells the kind.
func checkKind(t *testing.T, x tried, kind int) {
	t.Helper()
	x.x.Clear()
	if kind == 1 {
		x.set(sym("a"), whole(1))
		x.set(str("a"), whole(2))
		x.set(str("A"), whole(3))
		x.set(whole(1), whole(4))
		x.set(whole(11), whole(5))
		x.keys(sym("a"), str("a"), str("A"), whole(1), whole(11))
		return
	}
	x.refused(sym("a"), api.ErrType)
	x.refused(keyOf(5-kind, 1), api.ErrType)
	x.set(keyOf(kind, 1), whole(1))
	x.set(otherForm(kind, 1), whole(2))
	x.keys(keyOf(kind, 1))
}

// P13.3: each of the two tables is changed behind Copy, and the other one stays.
func TestCopiesAreApart(t *testing.T) {
	for _, kind := range kinds() {
		changes := []struct {
			what string
			do   func(x tried)
		}{
			{"a new key", func(x tried) { x.set(keyOf(kind, 8), whole(8)) }},
			{"a new value", func(x tried) { x.set(otherForm(kind, 2), sym("new")) }},
			{"a key that goes", func(x tried) { x.gone(keyOf(kind, 2)) }},
			{"a key that goes and comes", func(x tried) { x.gone(keyOf(kind, 0)); x.set(otherForm(kind, 0), empty()) }},
			{"Clear", func(x tried) { x.x.Clear() }},
			{"Clear and a key", func(x tried) { x.x.Clear(); x.set(keyOf(kind, 1), sym("new")) }},
			{"all", func(x tried) {
				for n := range 4 {
					x.set(keyOf(kind, n), sym("new"))
					x.gone(otherForm(kind, n))
				}
			}},
		}
		for _, change := range changes {
			x := filled(t, kind, 4)
			c := x.copy()
			c.stays(change.what+" in what was copied", func() { change.do(x) })
			y := filled(t, kind, 4)
			c = y.copy()
			y.stays(change.what+" in a copy", func() { change.do(c) })
		}
	}
}

// P13.3: behind Copy both go on with the order on their own.
func TestCopyGoesOn(t *testing.T) {
	for _, kind := range kinds() {
		x := filled(t, kind, 3)
		x.gone(keyOf(kind, 1))
		c := x.copy()
		x.set(keyOf(kind, 5), sym("a"))
		c.set(keyOf(kind, 6), sym("b"))
		x.set(keyOf(kind, 6), sym("c"))
		c.set(keyOf(kind, 1), sym("d"))
		x.keys(keysOf(kind, 0, 2, 5, 6)...)
		c.keys(keysOf(kind, 0, 2, 6, 1)...)
		x.get(keyOf(kind, 6), sym("c"))
		c.get(keyOf(kind, 6), sym("b"))
	}
}

// P13.3: Clear, and what is set behind it.
func TestClear(t *testing.T) {
	for _, kind := range kinds() {
		x := filled(t, kind, 6)
		for range 3 {
			x.x.Clear()
			x.keys()
			for n := range 8 {
				x.none(keyOf(kind, n))
			}
			x.x.Clear()
			x.keys()
			x.set(otherForm(kind, 4), sym("a"))
			x.set(keyOf(kind, 0), sym("b"))
			x.set(keyOf(kind, 4), sym("c"))
			x.keys(otherForm(kind, 4), keyOf(kind, 0))
			x.gone(keyOf(kind, 4))
			x.set(keyOf(kind, 5), sym("d"))
			x.keys(keysOf(kind, 0, 5)...)
		}
		checkKind(t, x, kind)
	}
}
