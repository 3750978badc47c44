package heap

import (
	"testing"

	"sextant/api"
)

// mixed is a heap with objects 1 and 2 that went and 3 to 6 that are there, of 1, 16, 17 and 40 words.
func mixed(t *testing.T) tried {
	t.Helper()
	h := heapOf(t, 40, 120)
	h.alloc(8, 1, 0)
	h.alloc(30, 2, 0)
	h.alloc(1, 3, 8)
	h.alloc(16, 4, 9)
	h.alloc(17, 5, 30)
	h.alloc(40, 6, 47)
	h.collect(38, 3, 4, 5, 6)
	return h
}

var mixedSizes = map[int]int{3: 1, 4: 16, 5: 17, 6: 40}

// P12.2: Size and Place as they are in both areas.
func TestSizeAndPlace(t *testing.T) {
	h := mixed(t)
	for x, n := range mixedSizes {
		h.size(x, n)
	}
	h.place(3, 0)
	h.place(4, 1)
	h.place(5, 30)
	h.place(6, 47)
}

// P12.2: the handle 0, those below 0, those that were never given and those that went are no objects.
func TestNoObject(t *testing.T) {
	h := mixed(t)
	for _, x := range []int{0, -1, -3, minInt, minInt + 3, 1, 2, 7, 8, mostCells, 1 << 32, 1<<32 + 3, maxInt} {
		h.stays("asking for what is not there", func() { h.none(x) })
	}
}

// P12.2: words from 0 to the size - 1, each by itself.
func TestGetAndSet(t *testing.T) {
	h := mixed(t)
	for x, n := range mixedSizes {
		for i := range n {
			h.get(x, i, number(0))
			h.set(x, i, number(1000*x+i))
		}
	}
	for x, n := range mixedSizes {
		for i := range n {
			h.get(x, i, number(1000*x+i))
			h.set(x, i, ref(x))
		}
	}
	for x, n := range mixedSizes {
		for i := range n {
			h.get(x, i, ref(x))
		}
	}
	h.free(23, 63)
	h.live(3, 4, 5, 6)
}

// P12.2: no word stands outside.
func TestPlacesOutside(t *testing.T) {
	h := mixed(t)
	for x, n := range mixedSizes {
		h.set(x, 0, number(5))
		h.set(x, n-1, number(6))
		for _, i := range []int{-1, -2, -n, minInt, minInt + 1, n, n + 1, mostCells, 1 << 32, maxInt - 1, maxInt} {
			h.stays("a place outside", func() {
				h.noGet(x, i, api.ErrArg)
				for _, c := range []api.Cell{number(0), number(7), ref(0), ref(x), ref(-1), ref(1), ref(maxInt)} {
					h.noSet(x, i, c, api.ErrArg)
				}
			})
		}
	}
}

// P12.2: any number, and each Ref that names an object or is 0, is kept as it is.
func TestSetOfCells(t *testing.T) {
	h := mixed(t)
	for x, n := range mixedSizes {
		for _, i := range []int{0, n - 1} {
			for _, c := range []api.Cell{
				number(0), number(1), number(-1), number(2), number(7), number(3), number(minInt), number(maxInt),
				ref(0), ref(3), ref(4), ref(5), ref(6), number(0),
			} {
				h.set(x, i, c)
			}
		}
	}
}

// P12.2: a Ref to one that is none, or that went, is not taken, and the word stays.
func TestSetOfRefsToNothing(t *testing.T) {
	h := mixed(t)
	for x, n := range mixedSizes {
		for _, old := range []api.Cell{number(77), ref(4), ref(0)} {
			h.set(x, n-1, old)
			for _, to := range []int{-1, -3, minInt, 1, 2, 7, 8, 1<<32 + 3, maxInt} {
				h.stays("a Ref to nothing", func() { h.noSet(x, n-1, ref(to), api.ErrArg) })
			}
			h.get(x, n-1, old)
		}
	}
}

// P12.2: a handle can be named from the time it is given to the time its object goes.
func TestSetOfRefsInTime(t *testing.T) {
	h := heapOf(t, 40, 40)
	h.alloc(2, 1, 0)
	h.noSet(1, 0, ref(2), api.ErrArg)
	h.alloc(17, 2, 0)
	h.set(1, 0, ref(2))
	h.set(1, 0, number(2))
	h.collect(17, 1)
	h.noSet(1, 0, ref(2), api.ErrArg)
	h.get(1, 0, number(2))
	h.noSet(1, 0, ref(3), api.ErrArg)
}
