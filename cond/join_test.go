package cond

import (
	"slices"
	"testing"

	"sextant/api"
)

// P16.2: Join of nothing, and of empty lists.
func TestJoinNothing(t *testing.T) {
	joins(t, nil)
	joins(t, nil, nil)
	joins(t, nil, []api.Simple{}, nil, make([]api.Simple, 0, 5))
	joins(t, nil, make([][]api.Simple, 50000)...)
}

// P16.2: Join of one list and of several, in their order.
func TestJoin(t *testing.T) {
	a, b, c := condition("4", "8 car"), condition("1 \"no\""), condition("12 (f x) x", "7 (1 2)", "4")
	joins(t, a, a)
	joins(t, a, nil, a, nil)
	joins(t, condition("4", "8 car", "1 \"no\""), a, b)
	joins(t, condition("1 \"no\"", "4", "8 car"), b, a)
	joins(t, condition("12 (f x) x", "7 (1 2)", "4", "4", "8 car", "1 \"no\""), c, nil, a, b)
	joins(t, condition("4", "8 car", "4", "8 car", "4", "8 car"), a, a, a)
	joins(t, eachType()[:mostParts], eachType()[:10], eachType()[10:mostParts])
}

// P16.2: what is at fault only when it is joined.
func TestJoinTooMany(t *testing.T) {
	for _, sizes := range [][]int{{16, 1}, {1, 16}, {10, 7}, {9, 8}, {16, 16}, {6, 6, 5}, {0, 16, 0, 1}, slices.Repeat([]int{1}, 17), slices.Repeat([]int{16}, 1000)} {
		var list [][]api.Simple
		for _, size := range sizes {
			isSound(t, eachType()[:size])
			list = append(list, eachType()[:size])
		}
		noJoin(t, api.ErrLarge, list...)
	}
}

// P16.2: ErrLarge is ahead of what is at fault in the lists themselves, behind the others and ahead of them.
func TestJoinFaults(t *testing.T) {
	full := eachType()[:mostParts]
	for _, fault := range faults() {
		noJoin(t, api.ErrLarge, []api.Simple{fault}, full)
		noJoin(t, api.ErrLarge, full, []api.Simple{fault})
	}
	noJoin(t, api.ErrNone, nil, faults()[:1], faults()[2:3], faults()[4:5])
	noJoin(t, api.ErrArg, faults()[2:3], nil, faults()[4:5], faults()[:1])
	noJoin(t, api.ErrForm, full[:10], faults()[4:5], faults()[2:3], faults()[:1])
}

// There is no end to how many parts there may be, of little memory.
func TestJoinFarTooMany(t *testing.T) {
	noJoin(t, api.ErrLarge, slices.Repeat([][]api.Simple{make([]api.Simple, 100000)}, 100000)...)
}

func noJoin(t *testing.T, want api.Errno, list ...[]api.Simple) {
	t.Helper()
	if got, e := Join(list...); len(got) != 0 || e != want {
		t.Errorf("Join of %d lists: types %s, error %d; want error %d", len(list), types(got), e, want)
	}
}

// P16.2: Find where one part alone is there: of its own type, of those that it is under, and of all others.
func TestFindOne(t *testing.T) {
	for number, one := range tree() {
		there := ofType(number)
		for of := range tree() {
			if slices.Contains(one.under, of) {
				finds(t, []api.Simple{there}, of, there)
			} else {
				noFind(t, []api.Simple{there}, of, api.ErrNone)
			}
		}
	}
}

// P16.2: Find of each type where no part is there, and of no type.
func TestFindInNothing(t *testing.T) {
	for number := range tree() {
		noFind(t, nil, number, api.ErrNone)
		noFind(t, []api.Simple{}, number, api.ErrNone)
	}
	for _, number := range noTypes() {
		noFind(t, nil, number, api.ErrArg)
		noFind(t, eachType()[:mostParts], number, api.ErrArg)
	}
}

// P16.2: of several parts under the type the first is found, be it of a child's type or of its own.
func TestFindFirst(t *testing.T) {
	c := condition("8 car", "2", "18 \"a\"", "1 \"no\"", "6", "12 f x", "17 \"b\"", "1 \"yes\"", "3", "12 g y", "7 (1)", "8 cdr", "4")
	for number, at := range map[int]int{0: 0, 1: 3, 2: 1, 3: 2, 4: 2, 5: 4, 6: 4, 7: 10, 8: 0, 12: 5, 14: 2, 17: 2, 18: 2} {
		finds(t, c, number, c[at])
	}
	for _, number := range []int{9, 10, 11, 13, 15, 16, 19} {
		noFind(t, c, number, api.ErrNone)
	}
	slices.Reverse(c)
	for number, at := range map[int]int{0: 0, 1: 5, 2: 11, 3: 0, 4: 0, 5: 3, 6: 8, 7: 2, 8: 1, 12: 3, 14: 6, 17: 6, 18: 10} {
		finds(t, c, number, c[at])
	}
}

// P16.2: a part's fields are found with it, whatever they are.
func TestFindFields(t *testing.T) {
	for _, d := range someData() {
		c := []api.Simple{part(4), part(12, d, sym("a")), part(19, d), part(12, sym("b"), d)}
		finds(t, c, 12, c[1])
		finds(t, c, 14, c[2])
		finds(t, c[3:], 5, c[3])
	}
}
