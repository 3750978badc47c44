package heap

import (
	"slices"
	"testing"

	"sextant/api"
)

// row is a heap with as many objects as sizes, their words numbers that no two share.
func row(t *testing.T, sizes ...int) tried {
	t.Helper()
	h := heapOf(t, 400, 1000)
	places := map[bool]int{}
	for k, n := range sizes {
		h.alloc(n, k+1, places[n > largeSize])
		places[n > largeSize] += n
		for i := range n {
			h.set(k+1, i, number(100*(k+1)+i))
		}
	}
	return h
}

// P12.3: without roots, or with none but 0, everything goes.
func TestCollectWithoutRoots(t *testing.T) {
	for _, roots := range [][]int{nil, {}, {0}, {0, 0, 0}} {
		h := row(t, 4, 20, 1, 16, 17)
		h.collect(58, roots...)
		h.live()
		h.free(400, 1000)
		for x := range 7 {
			h.none(x)
		}
		h.collect(0, roots...)
		h.noCollect(api.ErrNone, 1)
		h.alloc(16, 6, 0)
		h.alloc(1000, 7, 0)
	}
	h := heapOf(t, 10, 10)
	h.stays("collecting an empty heap", func() { h.collect(0, 0, 0) })
}

// P12.3: a root is a root however often it stands there, and wherever.
func TestCollectSameRoots(t *testing.T) {
	for _, roots := range [][]int{{2, 5}, {5, 2}, {2, 2, 5, 2, 5}, {0, 5, 0, 2, 0}, {5, 5, 5, 2}} {
		h := row(t, 4, 5, 6, 20, 30, 40)
		h.collect(70, roots...)
		h.live(2, 5)
		h.place(2, 0)
		h.place(5, 20)
		h.free(395, 970)
		h.stays("the same collection again", func() { h.collect(0, roots...) })
	}
}

// P12.3: a root that is none, wherever it stands, changes nothing.
func TestCollectOfWrongRoots(t *testing.T) {
	h := row(t, 4, 5, 20, 30, 6)
	h.set(2, 0, ref(4))
	h.collect(24, 2, 5)
	for _, bad := range []int{-1, -2, minInt, 1, 3, 6, 7, mostCells, 1<<32 + 2, maxInt} {
		for _, roots := range [][]int{{bad}, {bad, 2}, {2, bad}, {5, bad, 0}, {0, bad}, {2, 4, 5, bad}} {
			h.stays("Collect of a root that is none", func() { h.noCollect(api.ErrNone, roots...) })
		}
	}
	h.collect(6, 2)
	h.live(2, 4)
	heapOf(t, 10, 10).noCollect(api.ErrNone, 1)
}

// P12.3: whatever goes, first, between others or last: the small ones close up in their order, the large ones stay where they are.
func TestCollectEachChoice(t *testing.T) {
	sizes := []int{3, 20, 1, 17, 16, 40, 2, 18}
	for choice := range 1 << len(sizes) {
		h := row(t, sizes...)
		var roots []int
		went, place, large := 0, 0, 0
		places := map[int]int{}
		for k, n := range sizes {
			stays := choice>>k&1 == 1
			if stays {
				roots = append(roots, k+1)
			} else {
				went += n
			}
			if n > largeSize {
				places[k+1] = large
				large += n
			} else if stays {
				places[k+1] = place
				place += n
			}
		}
		h.collect(went, roots...)
		h.live(roots...)
		total := 0
		for _, x := range roots {
			n := sizes[x-1]
			h.size(x, n)
			h.place(x, places[x])
			for i := range n {
				h.get(x, i, number(100*x+i))
			}
			if n > largeSize {
				total += n
			}
		}
		h.free(400-place, 1000-total)
		h.alloc(5, len(sizes)+1, place)
	}
}

// P12.3: what is named by what stays, stays, at each place of its words and in either area.
func TestCollectFollowsRefs(t *testing.T) {
	for _, from := range []int{1, 2, 16, 17, 40} {
		for i := range from {
			h := row(t, 7, from, 8, 30)
			h.set(2, i, ref(3))
			h.collect(37, 2)
			h.live(2, 3)
			h.get(2, i, ref(3))
			h.get(3, 7, number(307))

			h = row(t, 7, from, 8, 30)
			h.set(2, i, ref(4))
			h.collect(15, 2)
			h.live(2, 4)
			h.get(2, i, ref(4))
			h.get(4, 29, number(429))
		}
	}
}

// P12.3: a Ref with 0 names nothing, and a number is no Ref, whatever handle it looks like.
func TestNumbersNameNothing(t *testing.T) {
	h := row(t, 3, 3, 20)
	h.set(1, 0, number(2))
	h.set(1, 1, number(3))
	h.set(1, 2, ref(0))
	h.collect(23, 1)
	h.live(1)
	h.get(1, 0, number(2))
	h.get(1, 1, number(3))
	h.get(1, 2, ref(0))
}

// P12.3: a word that is written over names what it names now alone.
func TestCollectByTheLastWord(t *testing.T) {
	h := row(t, 3, 4, 5, 20)
	h.set(1, 0, ref(2))
	h.set(1, 0, ref(3))
	h.set(1, 1, ref(4))
	h.set(1, 1, number(4))
	h.collect(24, 1)
	h.live(1, 3)
	h.set(1, 0, ref(0))
	h.collect(5, 1)
	h.live(1)
}

// P12.3: what only one that goes names, goes with it, and so does a ring that nothing else names.
func TestCollectOfRings(t *testing.T) {
	laid := func() tried {
		h := row(t, 2, 20, 3, 30, 4)
		h.set(1, 0, ref(2))
		h.set(2, 19, ref(3))
		h.set(3, 1, ref(1))
		h.set(4, 0, ref(5))
		h.set(4, 1, ref(1))
		h.set(5, 3, ref(5))
		return h
	}
	for _, root := range []int{1, 2, 3} {
		h := laid()
		h.collect(34, root)
		h.live(1, 2, 3)
		h.get(3, 1, ref(1))
		h.free(395, 980)
	}
	h := laid()
	h.stays("Collect of what names all", func() { h.collect(0, 4) })
	h.collect(55, 5)
	h.live(5)
	h.place(5, 0)
	h.collect(4)
	h.live()
	h = laid()
	h.collect(59)
	h.live()
}

// chain is a heap of n objects of which each names the next: from the first to the last made, or back.
func chain(t *testing.T, n, size int, back bool) tried {
	t.Helper()
	h := heapOf(t, mostCells, mostCells)
	for x := 1; x <= n; x++ {
		h.alloc(size, x, size*(x-1))
	}
	for x := 1; x < n; x++ {
		from, to := x, x+1
		if back {
			from, to = to, from
		}
		h.set(from, size-1, ref(to))
	}
	return h
}

// P12.3: chains as long as can be.
func TestCollectOfLongChains(t *testing.T) {
	for _, size := range []int{1, 16, 17} {
		n := mostCells / size
		h := chain(t, n, size, false)
		h.collect(0, 1)
		h.collect(size*(n/2), n/2+1)
		if got := h.h.Live(); len(got) != n-n/2 || got[0] != n/2+1 || got[len(got)-1] != n {
			t.Errorf("of %d objects of %d words, %d stay behind the half", n, size, len(got))
		}
		h = chain(t, n, size, true)
		h.collect(0, n)
		h.collect(size*(n-n/2), n/2)
		if got := h.h.Live(); len(got) != n/2 || got[0] != 1 || got[len(got)-1] != n/2 {
			t.Errorf("of %d objects of %d words, %d stay ahead of the half", n, size, len(got))
		}
		h.collect(size * (n / 2))
		h.live()
	}
}

// P12.3: many roots, more than there are objects.
func TestCollectOfManyRoots(t *testing.T) {
	h := row(t, 4, 5, 20)
	h.collect(5, slices.Repeat([]int{3, 0, 1}, 100000)...)
	h.live(1, 3)
	h.stays("Collect with a bad root behind many", func() {
		h.noCollect(api.ErrNone, append(slices.Repeat([]int{3, 0, 1}, 100000), 2)...)
	})
}

// What follows: a small object has no room just if fewer words are free behind the last one, since nothing is free between them.
func TestSmallRoomBehindCollect(t *testing.T) {
	for n := 1; n <= largeSize; n++ {
		h := heapOf(t, 64, 0)
		for x := 1; x <= 8; x++ {
			h.alloc(8, x, 8*(x-1))
		}
		h.noAlloc(n, api.ErrFull)
		h.collect(16, 1, 3, 4, 5, 6, 8)
		h.alloc(n, 9, 48)
		for m := 17 - n; m <= largeSize; m++ {
			h.noAlloc(m, api.ErrFull)
		}
		if n < 16 {
			h.alloc(16-n, 10, 48+n)
		}
		h.free(0, 0)
	}
}

// P12.1: room that was used before has the words of a new object, the number 0.
func TestUsedRoomIsNew(t *testing.T) {
	h := row(t, 16, 16, 40, 40)
	h.collect(56, 2, 4)
	h.alloc(16, 5, 16)
	h.alloc(40, 6, 0)
	h.get(2, 15, number(215))
	h.get(4, 39, number(439))
	h.set(5, 0, number(9))
	h.get(2, 0, number(200))
}
