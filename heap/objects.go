package heap

import "sextant/api"

// object is what a handle stands for. Its words are its own, so that it can be moved without them.
type object struct {
	place int
	words []api.Cell
}

func (o object) has(i int) bool {
	return 0 <= i && i < len(o.words)
}

// find: the object of a handle, which must be there; beside an error an object without anything.
func (h *Heap) find(x int) (object, api.Errno) {
	if h == nil {
		return object{}, api.ErrArg
	}
	o, there := h.objects[x]
	if !there {
		return object{}, api.ErrNone
	}
	return o, api.OK
}

// names: may a Ref or a root be x?
func (h *Heap) names(x int) bool {
	_, there := h.objects[x]
	return x == 0 || there
}
