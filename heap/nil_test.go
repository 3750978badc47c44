package heap

import (
	"testing"

	"sextant/api"
)

// P12.5: every call on a nil heap, whatever else it is given.
func TestNilHeap(t *testing.T) {
	h := tried{t, nil}
	ends := []int{0, 1, -1, 2, 17, minInt, maxInt}
	for _, x := range ends {
		h.noAlloc(x, api.ErrArg)
		for _, i := range ends {
			h.noGet(x, i, api.ErrArg)
			for _, c := range []api.Cell{number(0), number(x), ref(0), ref(x), ref(i)} {
				h.noSet(x, i, c, api.ErrArg)
			}
		}
		if n, e := h.h.Size(x); n != 0 || e != api.ErrArg {
			t.Errorf("Size(%d): %d, error %d", x, n, e)
		}
		if p, e := h.h.Place(x); p != 0 || e != api.ErrArg {
			t.Errorf("Place(%d): %d, error %d", x, p, e)
		}
		h.noCollect(api.ErrArg, x)
	}
	for _, roots := range [][]int{nil, {}, {0, 0}, {1, 2, 3}} {
		h.noCollect(api.ErrArg, roots...)
	}
	h.free(0, 0)
	h.live()
}

// R1: a heap that New has not made is one of two areas without words.
func TestZeroHeap(t *testing.T) {
	h := tried{t, new(Heap)}
	for range 2 {
		h.noAlloc(0, api.ErrArg)
		for _, n := range []int{1, 16, 17, maxInt} {
			h.noAlloc(n, api.ErrFull)
		}
		for _, x := range []int{0, 1, -1} {
			h.none(x)
		}
		h.noCollect(api.ErrNone, 1)
		h.collect(0, 0)
		h.collect(0)
		h.free(0, 0)
		h.live()
	}
}
