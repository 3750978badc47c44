package heap

import (
	"slices"
	"testing"

	"sextant/api"
)

// R4: roots are not changed, spare room included, and not kept.
func TestRootsAreLeft(t *testing.T) {
	for _, roots := range [][]int{{}, {4, 2}, {2, 0, 4, 2}, {5, 5, 1}, {4, 9, 2}, {0, 3, -1}} {
		h := row(t, 4, 5, 20, 30, 6)
		h.set(2, 0, ref(3))
		in := append(slices.Clone(roots), 1, 9, -7)[:len(roots)]
		kept := slices.Clone(in[:cap(in)])
		_, e := h.h.Collect(in)
		if !slices.Equal(in[:cap(in)], kept) {
			t.Errorf("Collect(%v) has left %v", roots, in[:cap(in)])
		}
		h.stays("writing over the roots", func() {
			for i := range in[:cap(in)] {
				in[:cap(in)][i] = 12345
			}
		})
		if wrong := slices.Contains(roots, 9) || slices.Contains(roots, -1); wrong != (e != api.OK) {
			t.Errorf("Collect(%v): error %d", roots, e)
		}
	}
}

// R4: what Live answers is new memory, spare room included.
func TestLiveIsNew(t *testing.T) {
	h := row(t, 4, 5, 20, 30, 6)
	first, second := h.h.Live(), h.h.Live()
	h.stays("writing over what Live answered", func() {
		for i := range first[:cap(first)] {
			first[:cap(first)][i] = -5
		}
	})
	if want := []int{1, 2, 3, 4, 5}; !slices.Equal(second, want) {
		t.Errorf("one answer of Live is written over with another: %v", second)
	}
	h.live(1, 2, 3, 4, 5)

	room := slices.Clone(second[:cap(second)])
	h.collect(30, 1, 3, 5, 2)
	h.alloc(7, 6, 15)
	h.alloc(27, 7, 20)
	h.set(1, 0, ref(7))
	h.collect(38, 1)
	h.live(1, 7)
	if !slices.Equal(second[:cap(second)], room) {
		t.Errorf("later calls have changed what Live answered: %v", second)
	}
}

// R4: a cell that was answered or handed in is a value of its own.
func TestCellsAreValues(t *testing.T) {
	h := row(t, 4, 5)
	c := number(7)
	h.set(1, 0, c)
	c.N, c.Ref = 8, true
	h.get(1, 0, number(7))
	got, _ := h.h.Get(1, 0)
	h.set(1, 0, number(9))
	if got != number(7) {
		t.Errorf("a later Set has changed what Get answered: %v", got)
	}
}

// R5: heaps have nothing in common.
func TestHeapsAreApart(t *testing.T) {
	a, b := row(t, 4, 20, 5), row(t, 6, 7)
	b.stays("what is done to another heap", func() {
		a.set(1, 0, ref(2))
		a.collect(5, 1)
		a.alloc(3, 4, 4)
		a.set(4, 0, number(1))
		a.collect(27)
	})
	a.live()
	b.live(1, 2)
	b.alloc(1, 3, 13)
	a.alloc(1, 5, 0)
}

// R5: the same calls answer the same, whatever order a map is gone through.
func TestSameCallsAnswerTheSame(t *testing.T) {
	laid := func() tried {
		h := heapOf(t, 600, 2400)
		for x := 1; x <= 100; x++ {
			if _, e := h.h.Alloc(1 + x*7%29); e != api.OK {
				t.Fatalf("the %d-th Alloc: error %d", x, e)
			}
			h.set(x, 0, ref(1+57%x))
		}
		for x := 3; x < 100; x += 3 {
			h.set(x, 0, ref(x/2))
		}
		if _, e := h.h.Collect([]int{99, 60, 31, 80}); e != api.OK {
			t.Fatalf("Collect: error %d", e)
		}
		for n := range 12 {
			h.h.Alloc(12 + n)
		}
		return h
	}
	want := laid().whole()
	for range 20 {
		if got := laid().whole(); !sameWhole(got, want) {
			t.Fatalf("%v, and another time %v", want, got)
		}
	}
}
