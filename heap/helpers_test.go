package heap

import (
	"math"
	"slices"
	"testing"

	"sextant/api"
)

// The limits written out, so that the tests do not follow a slip of the program's.
const (
	mostCells = 65536
	largeSize = 16
	maxInt    = math.MaxInt
	minInt    = math.MinInt
)

func number(n int) api.Cell { return api.Cell{N: n} }

func ref(x int) api.Cell { return api.Cell{N: x, Ref: true} }

// tried is a heap whose calls are held against what a test says that they answer.
type tried struct {
	t *testing.T
	h *Heap
}

func heapOf(t *testing.T, small, large int) tried {
	t.Helper()
	h, e := New(small, large)
	if e != api.OK || h == nil {
		t.Fatalf("New(%d, %d): error %d", small, large, e)
	}
	return tried{t, h}
}

// alloc: a new object of n words, of that handle, at that place, all its words the number 0.
func (h tried) alloc(n, handle, place int) {
	h.t.Helper()
	if x, e := h.h.Alloc(n); x != handle || e != api.OK {
		h.t.Fatalf("Alloc(%d): %d, error %d; want %d", n, x, e, handle)
	}
	h.size(handle, n)
	h.place(handle, place)
	for i := range n {
		h.get(handle, i, number(0))
	}
}

func (h tried) noAlloc(n int, want api.Errno) {
	h.t.Helper()
	if x, e := h.h.Alloc(n); x != 0 || e != want {
		h.t.Errorf("Alloc(%d): %d, error %d; want error %d", n, x, e, want)
	}
}

func (h tried) get(x, i int, want api.Cell) {
	h.t.Helper()
	if c, e := h.h.Get(x, i); c != want || e != api.OK {
		h.t.Errorf("Get(%d, %d): %v, error %d; want %v", x, i, c, e, want)
	}
}

func (h tried) noGet(x, i int, want api.Errno) {
	h.t.Helper()
	if c, e := h.h.Get(x, i); c != (api.Cell{}) || e != want {
		h.t.Errorf("Get(%d, %d): %v, error %d; want error %d", x, i, c, e, want)
	}
}

// set: the word is written, as Get tells.
func (h tried) set(x, i int, c api.Cell) {
	h.t.Helper()
	if e := h.h.Set(x, i, c); e != api.OK {
		h.t.Errorf("Set(%d, %d, %v): error %d", x, i, c, e)
	}
	h.get(x, i, c)
}

func (h tried) noSet(x, i int, c api.Cell, want api.Errno) {
	h.t.Helper()
	if e := h.h.Set(x, i, c); e != want {
		h.t.Errorf("Set(%d, %d, %v): error %d; want error %d", x, i, c, e, want)
	}
}

func (h tried) size(x, want int) {
	h.t.Helper()
	if n, e := h.h.Size(x); n != want || e != api.OK {
		h.t.Errorf("Size(%d): %d, error %d; want %d", x, n, e, want)
	}
}

func (h tried) place(x, want int) {
	h.t.Helper()
	if p, e := h.h.Place(x); p != want || e != api.OK {
		h.t.Errorf("Place(%d): %d, error %d; want %d", x, p, e, want)
	}
}

// none: there is no object x, whatever call asks for it.
func (h tried) none(x int) {
	h.t.Helper()
	for _, i := range []int{0, 1, -1, 15, minInt, maxInt} {
		h.noGet(x, i, api.ErrNone)
		for _, c := range []api.Cell{number(0), number(7), ref(0), ref(x), ref(-1), ref(maxInt)} {
			h.noSet(x, i, c, api.ErrNone)
		}
	}
	if n, e := h.h.Size(x); n != 0 || e != api.ErrNone {
		h.t.Errorf("Size(%d): %d, error %d; want ErrNone", x, n, e)
	}
	if p, e := h.h.Place(x); p != 0 || e != api.ErrNone {
		h.t.Errorf("Place(%d): %d, error %d; want ErrNone", x, p, e)
	}
}

func (h tried) collect(went int, roots ...int) {
	h.t.Helper()
	if n, e := h.h.Collect(roots); n != went || e != api.OK {
		h.t.Errorf("Collect of %d roots: %d, error %d; want %d", len(roots), n, e, went)
	}
}

func (h tried) noCollect(want api.Errno, roots ...int) {
	h.t.Helper()
	if n, e := h.h.Collect(roots); n != 0 || e != want {
		h.t.Errorf("Collect(%v): %d, error %d; want error %d", roots, n, e, want)
	}
}

func (h tried) free(small, large int) {
	h.t.Helper()
	if s, l := h.h.Free(); s != small || l != large {
		h.t.Errorf("Free: %d, %d; want %d, %d", s, l, small, large)
	}
}

func (h tried) live(want ...int) {
	h.t.Helper()
	if got := h.h.Live(); !slices.Equal(got, want) {
		h.t.Errorf("Live: %v; want %v", got, want)
	}
}

// seen is all that the calls tell of one object.
type seen struct {
	handle, size, place int
	words               []api.Cell
}

// whole is all that the calls tell of a heap.
type whole struct {
	small, large int
	objects      []seen
}

func (h tried) whole() whole {
	h.t.Helper()
	var w whole
	w.small, w.large = h.h.Free()
	for _, x := range h.h.Live() {
		w.objects = append(w.objects, h.seen(x))
	}
	return w
}

func (h tried) seen(x int) seen {
	h.t.Helper()
	n, e := h.h.Size(x)
	p, f := h.h.Place(x)
	if e != api.OK || f != api.OK {
		h.t.Fatalf("Size and Place of %d, which is there: errors %d and %d", x, e, f)
	}
	s := seen{handle: x, size: n, place: p}
	for i := range n {
		c, e := h.h.Get(x, i)
		if e != api.OK {
			h.t.Fatalf("Get(%d, %d) of %d words: error %d", x, i, n, e)
		}
		s.words = append(s.words, c)
	}
	return s
}

func sameWhole(a, b whole) bool {
	return a.small == b.small && a.large == b.large && slices.EqualFunc(a.objects, b.objects, func(a, b seen) bool {
		return a.handle == b.handle && a.size == b.size && a.place == b.place && slices.Equal(a.words, b.words)
	})
}

// stays: what is done changes nothing that the calls tell.
func (h tried) stays(what string, do func()) {
	h.t.Helper()
	before := h.whole()
	do()
	if after := h.whole(); !sameWhole(before, after) {
		h.t.Errorf("%s has changed the heap from %v to %v", what, before, after)
	}
}
