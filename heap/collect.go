package heap

import "slices"

// marks has the handles of what has been reached.
type marks map[int]struct{}

// reached: what the roots name, and what that names in turn. What was found waits in a list, since chains may be too long to be followed by calls within calls.
func (h *Heap) reached(roots []int) marks {
	found := marks{}
	var waiting []int
	visit := func(x int) {
		_, before := found[x]
		if x != 0 && !before {
			found[x] = struct{}{}
			waiting = append(waiting, x)
		}
	}
	for _, x := range roots {
		visit(x)
	}
	for i := 0; i < len(waiting); i++ {
		for _, c := range h.objects[waiting[i]].words {
			if c.Ref {
				visit(c.N)
			}
		}
	}
	return found
}

// sweep: the objects without a mark go; how many words they had.
func (h *Heap) sweep(stay marks) int {
	went := 0
	for x, o := range h.objects {
		if _, stays := stay[x]; !stays {
			went += len(o.words)
			delete(h.objects, x)
		}
	}
	return went
}

// moveDown makes the small area compact. Handles rise in the order in which objects were made, and so in the order in which they stand there.
func (h *Heap) moveDown() {
	place := 0
	for _, x := range h.Live() {
		o := h.objects[x]
		if isLarge(len(o.words)) {
			continue
		}
		o.place = place
		h.objects[x] = o
		place += len(o.words)
	}
}

// standing: the objects of the large area, or of the small one, by rising places.
func (h *Heap) standing(large bool) []object {
	var objects []object
	for _, o := range h.objects {
		if isLarge(len(o.words)) == large {
			objects = append(objects, o)
		}
	}
	slices.SortFunc(objects, func(o, p object) int { return o.place - p.place })
	return objects
}
