package heap

import (
	"slices"

	"sextant/api"
)

// area is told by what is free in it: its gaps, by rising places. The small area is kept compact, so that it has no gap but the one behind its last object, and both areas give room in the same way.
type area struct {
	size int
	gaps []gap
}

type gap struct{ place, size int }

func allowed(size int) bool {
	return 0 <= size && size <= api.MaxCells
}

func emptyArea(size int) area {
	return area{size: size, gaps: []gap{{place: 0, size: size}}}
}

// isLarge: do objects of n words stand in the large area?
func isLarge(n int) bool {
	return n > api.LargeSize
}

func (h *Heap) areaOf(n int) *area {
	if isLarge(n) {
		return &h.large
	}
	return &h.small
}

// take: n words at the least place that has room for them.
func (a *area) take(n int) (place int, fits bool) {
	i := slices.IndexFunc(a.gaps, func(g gap) bool { return g.size >= n })
	if i < 0 {
		return 0, false
	}
	g := a.gaps[i]
	a.gaps[i] = gap{place: g.place + n, size: g.size - n}
	return g.place, true
}

func (a *area) free() int {
	n := 0
	for _, g := range a.gaps {
		n += g.size
	}
	return n
}

// layGaps: what objects that come by rising places leave free is all that is.
func (a *area) layGaps(objects []object) {
	a.gaps = nil
	behind := 0
	for _, o := range objects {
		a.layGap(behind, o.place)
		behind = o.place + len(o.words)
	}
	a.layGap(behind, a.size)
}

func (a *area) layGap(from, to int) {
	if from < to {
		a.gaps = append(a.gaps, gap{place: from, size: to - from})
	}
}
