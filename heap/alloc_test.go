package heap

import (
	"testing"

	"sextant/api"
)

// The chapter's example.
func TestExample(t *testing.T) {
	h := heapOf(t, 10, 40)
	h.alloc(4, 1, 0)
	h.alloc(4, 2, 4)
	h.noAlloc(4, api.ErrFull)
	h.collect(4, 2)
	h.place(2, 0)
	h.alloc(4, 3, 4)
	h.alloc(20, 4, 0)
	h.alloc(20, 5, 20)
	h.collect(24, 5, 3)
	h.place(3, 0)
	h.place(5, 20)
	h.alloc(17, 6, 0)
	h.noGet(1, 0, api.ErrNone)
	for _, x := range []int{1, 2, 4} {
		h.none(x)
	}
	h.free(6, 3)
	h.live(3, 5, 6)
}

// P12.1: areas of 0 words and of MaxCells, each by itself.
func TestNew(t *testing.T) {
	for _, small := range []int{0, 1, 16, 17, 1000, mostCells - 1, mostCells} {
		for _, large := range []int{0, 1, 16, 17, 1000, mostCells - 1, mostCells} {
			h := heapOf(t, small, large)
			h.free(small, large)
			h.live()
			for _, x := range []int{0, 1, -1} {
				h.none(x)
			}
			h.collect(0)
			h.free(small, large)
		}
	}
}

// P12.1: one that is too much in either area is enough; R3: no heap beside the error.
func TestNewOfWrongAreas(t *testing.T) {
	wrong := []int{-1, -2, -mostCells, minInt, minInt + 1, mostCells + 1, 2 * mostCells, 1 << 40, maxInt}
	for _, bad := range wrong {
		for _, other := range append([]int{0, 1, 100, mostCells}, wrong...) {
			for _, areas := range [][2]int{{bad, other}, {other, bad}} {
				if h, e := New(areas[0], areas[1]); h != nil || e != api.ErrArg {
					t.Errorf("New(%d, %d): %v, error %d; want ErrArg", areas[0], areas[1], h, e)
				}
			}
		}
	}
}

// P12.1: objects of 1 to LargeSize words stand in the small area, those of more in the large one.
func TestAlloc(t *testing.T) {
	h := heapOf(t, mostCells, mostCells)
	small, large := 0, 0
	for n := 1; n <= 40; n++ {
		if n <= largeSize {
			h.alloc(n, n, small)
			small += n
		} else {
			h.alloc(n, n, large)
			large += n
		}
		h.free(mostCells-small, mostCells-large)
	}
}

// P12.1: below 1 is ErrArg, also where nothing has room; P12.1 names it first.
func TestAllocOfNothing(t *testing.T) {
	full := heapOf(t, 1, 17)
	full.alloc(1, 1, 0)
	full.alloc(17, 2, 0)
	for _, h := range []tried{heapOf(t, 0, 0), heapOf(t, 100, 100), full} {
		for _, n := range []int{0, -1, -16, -17, minInt, minInt + 1} {
			h.stays("Alloc of nothing", func() { h.noAlloc(n, api.ErrArg) })
		}
	}
	full.noAlloc(1, api.ErrFull)
	full.noAlloc(17, api.ErrFull)
}

// P12.1: one area's room is none of the other's.
func TestAllocKeepsToItsArea(t *testing.T) {
	h := heapOf(t, 0, mostCells)
	for _, n := range []int{1, 2, 15, largeSize} {
		h.noAlloc(n, api.ErrFull)
	}
	h.alloc(largeSize+1, 1, 0)
	h.free(0, mostCells-largeSize-1)

	h = heapOf(t, mostCells, 0)
	for _, n := range []int{largeSize + 1, 18, 100, mostCells} {
		h.noAlloc(n, api.ErrFull)
	}
	h.alloc(largeSize, 1, 0)
	h.free(mostCells-largeSize, 0)
}

// P12.1: just as many words as are free, one more, more than the area has, and far beyond.
func TestAllocUpToTheEnd(t *testing.T) {
	for taken := 1; taken <= largeSize; taken++ {
		for left := 1; left < largeSize; left++ {
			h := heapOf(t, taken+left, 40)
			h.alloc(taken, 1, 0)
			for n := left + 1; n <= largeSize; n++ {
				h.stays("Alloc without room", func() { h.noAlloc(n, api.ErrFull) })
			}
			h.alloc(left, 2, taken)
			h.noAlloc(1, api.ErrFull)
			h.free(0, 40)
		}
	}
	for _, size := range []int{17, 18, 100, 1000, mostCells} {
		h := heapOf(t, 40, size)
		for _, n := range []int{size + 1, size + 2, mostCells + 1, 1 << 31, 1 << 40, 1 << 62, maxInt - 1, maxInt} {
			h.stays("Alloc of too much", func() { h.noAlloc(n, api.ErrFull) })
		}
		h.alloc(size, 1, 0)
		h.free(40, 0)
		for _, n := range []int{17, size, maxInt} {
			h.noAlloc(n, api.ErrFull)
		}
	}
	h := heapOf(t, 40, 100)
	h.alloc(60, 1, 0)
	h.noAlloc(41, api.ErrFull)
	h.alloc(40, 2, 60)
	h.noAlloc(17, api.ErrFull)
}

// P12.1: nothing is collected for want of room, though nothing names what is there.
func TestAllocCollectsNothing(t *testing.T) {
	h := heapOf(t, 4, 20)
	h.alloc(4, 1, 0)
	h.alloc(20, 2, 0)
	h.stays("Alloc without room", func() {
		h.noAlloc(1, api.ErrFull)
		h.noAlloc(17, api.ErrFull)
	})
	h.live(1, 2)
}

// P12.1, P12.4: both areas as full as can be.
func TestAllocManyObjects(t *testing.T) {
	h := heapOf(t, mostCells, mostCells)
	for i := range mostCells {
		h.alloc(1, i+1, i)
	}
	h.noAlloc(1, api.ErrFull)
	many := mostCells / 17
	for i := range many {
		h.alloc(17, mostCells+i+1, 17*i)
	}
	h.noAlloc(17, api.ErrFull)
	h.free(0, mostCells%17)
	for i, x := range h.h.Live() {
		if x != i+1 {
			t.Fatalf("Live has %d at %d", x, i)
		}
	}
	if n := len(h.h.Live()); n != mostCells+many {
		t.Errorf("Live has %d handles", n)
	}
	h.collect(mostCells+17*many-18, 1000, mostCells+1000)
	h.live(1000, mostCells+1000)
	h.place(1000, 0)
	h.place(mostCells+1000, 17*999)
	h.free(mostCells-1, mostCells-17)
}

// laid is a heap whose large area has gaps of so many words between objects of 20, and no room behind the last one.
func laid(t *testing.T, gaps ...int) (h tried, next int) {
	t.Helper()
	size := 20
	for _, g := range gaps {
		size += g + 20
	}
	h = heapOf(t, 0, size)
	h.alloc(20, 1, 0)
	place, x := 20, 2
	roots := []int{1}
	for _, g := range gaps {
		h.alloc(g, x, place)
		h.alloc(20, x+1, place+g)
		roots = append(roots, x+1)
		place, x = place+g+20, x+2
	}
	h.collect(size-20*len(roots), roots...)
	return h, x
}

// P12.1: the least place at which there is room: gaps that are just wide enough, one word too narrow, and several that would do.
func TestAllocBetweenObjects(t *testing.T) {
	for _, c := range []struct {
		gaps     []int
		n, place int
	}{
		{[]int{30}, 30, 20},
		{[]int{30}, 29, 20},
		{[]int{30}, 17, 20},
		{[]int{29, 30}, 30, 69},
		{[]int{29, 31}, 30, 69},
		{[]int{30, 30}, 30, 20},
		{[]int{31, 30}, 30, 20},
		{[]int{50, 30, 40}, 30, 20},
		{[]int{17, 29, 30, 30, 60}, 30, 106},
		{[]int{17, 29, 60, 30}, 30, 106},
		{[]int{40, 17}, 17, 20},
		{[]int{17, 18, 19}, 19, 95},
	} {
		h, next := laid(t, c.gaps...)
		h.alloc(c.n, next, c.place)
	}
	for _, gaps := range [][]int{{29}, {29, 29, 29}, {17, 29}, {29, 17}} {
		h, _ := laid(t, gaps...)
		h.stays("Alloc into gaps that are too narrow", func() { h.noAlloc(30, api.ErrFull) })
	}
}

// P12.1: what is left of a gap is a gap; P12.4: what is free in all is no room in itself.
func TestAllocIntoWhatIsLeft(t *testing.T) {
	h, next := laid(t, 40, 60, 40)
	h.free(0, 140)
	h.noAlloc(61, api.ErrFull)
	h.alloc(20, next, 20)
	h.alloc(41, next+1, 80)
	h.alloc(20, next+2, 40)
	h.alloc(19, next+3, 121)
	h.noAlloc(41, api.ErrFull)
	h.alloc(23, next+4, 160)
	h.alloc(17, next+5, 183)
	h.free(0, 0)
	h.noAlloc(17, api.ErrFull)
}

// P12.3, P12.1: gaps grow together where what stood between them goes, at the area's beginning and up to its end too.
func TestGapsGrowTogether(t *testing.T) {
	h := heapOf(t, 0, 100)
	for i := range 5 {
		h.alloc(20, i+1, 20*i)
	}
	h.collect(20, 1, 3, 4, 5)
	h.collect(20, 1, 4, 5)
	h.noAlloc(41, api.ErrFull)
	h.alloc(40, 6, 20)
	h.collect(60, 4, 5)
	h.alloc(60, 7, 0)
	h.collect(20, 7, 4)
	h.alloc(20, 8, 80)
	h.collect(40, 7)
	h.noAlloc(41, api.ErrFull)
	h.alloc(40, 9, 60)
	h.collect(100)
	h.alloc(100, 10, 0)
}

// P12.1: each handle is given once: a call without an object gives none, and a collection gives none back.
func TestHandlesAreGivenOnce(t *testing.T) {
	h := heapOf(t, 20, 50)
	h.alloc(10, 1, 0)
	h.noAlloc(0, api.ErrArg)
	h.noAlloc(11, api.ErrFull)
	h.noAlloc(51, api.ErrFull)
	h.alloc(10, 2, 10)
	h.collect(10, 1)
	h.alloc(5, 3, 10)
	h.collect(15)
	h.alloc(20, 4, 0)
	h.collect(0, 4)
	h.collect(20)
	h.collect(0)
	h.alloc(16, 5, 0)
	h.alloc(50, 6, 0)
	h.collect(66)
	h.live()
	for x := 1; x <= 8; x++ {
		h.none(x)
	}
	h.alloc(50, 7, 0)
	h.alloc(1, 8, 0)
	h.live(7, 8)
}
