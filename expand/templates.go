package expand

import (
	"slices"

	"sextant/api"
)

// filling is the work on the outcome of one use: how many nodes may still be laid down.
type filling struct {
	*use
	slots map[identifier]int
	left  int
}

// view: what the variables stand for in a part of a template, and whether ellipses mean nothing special there.
type view struct {
	found []match
	plain bool
}

// fill: a rule's template with what its variables have matched.
func (u *use) fill(r rule, found []match) (form, api.Errno) {
	work := filling{u, r.slots, api.MaxNodes}
	out, e := work.fill(r.template, view{found: found})
	switch {
	case e != api.OK:
		return nil, e
	case out.extent().depth > api.MaxDepth:
		return nil, api.ErrLarge
	}
	return out, api.OK
}

func (w *filling) lay(count int) api.Errno {
	w.left -= count
	if w.left < 0 {
		return api.ErrLarge
	}
	return api.OK
}

func (w *filling) fill(t form, v view) (form, api.Errno) {
	switch t := t.(type) {
	case identifier:
		return w.identifier(t, v)
	case *pair:
		if inner, ok := v.escaped(t); ok {
			return w.fill(inner, view{v.found, true})
		}
		return w.list(t, v)
	case *vector:
		items, e := w.items(t.items, v)
		if e != api.OK {
			return nil, e
		}
		return vectorOf(items), w.lay(1)
	}
	return t, w.lay(1)
}

func (w *filling) identifier(id identifier, v view) (form, api.Errno) {
	if v.isEllipsis(id) {
		return nil, api.ErrForms
	}
	slot, ok := w.slots[id]
	switch {
	case !ok:
		return w.aliasFor(id), w.lay(1)
	case v.found[slot].rounds != nil:
		return nil, api.ErrForms
	}
	value := v.found[slot].value
	return value, w.lay(value.extent().nodes)
}

func (w *filling) list(t form, v view) (form, api.Errno) {
	parts, rest := split(t)
	items, e := w.items(parts, v)
	if e != api.OK {
		return nil, e
	}
	last, e := w.fill(rest, v)
	if e != api.OK {
		return nil, e
	}
	return linked(items, last), w.lay(len(items))
}

// items fills those of a list or a vector, each with as many ellipses as stand behind it.
func (w *filling) items(parts []form, v view) ([]form, api.Errno) {
	var out []form
	for len(parts) > 0 {
		ellipses := v.ellipsesAt(parts[1:])
		more, e := w.repeat(parts[0], ellipses, v, out)
		if e != api.OK {
			return nil, e
		}
		parts, out = parts[1+ellipses:], more
	}
	return out, api.OK
}

// repeat puts the outcomes of an item with so many ellipses behind it behind those that are there.
func (w *filling) repeat(item form, ellipses int, v view, out []form) ([]form, api.Errno) {
	if ellipses == 0 {
		one, e := w.fill(item, v)
		return append(out, one), e
	}
	slots := w.roundSlots(item, v, nil)
	count, e := countRounds(slots, v.found)
	inside, out := view{found: slices.Clone(v.found)}, slices.Grow(out, count)
	for i := 0; i < count && e == api.OK; i++ {
		for _, slot := range slots {
			outside := v.found[slot]
			inside.found[slot] = outside.rounds.match(i, outside.slot)
		}
		out, e = w.repeat(item, ellipses-1, inside, out)
	}
	return out, e
}

// roundSlots puts the slots of the variables of a template that stand for something in each round behind those that are there.
func (w *filling) roundSlots(t form, v view, slots []int) []int {
	switch t := t.(type) {
	case identifier:
		slot, ok := w.slots[t]
		if ok && v.found[slot].rounds != nil {
			slots = append(slots, slot)
		}
	case *pair:
		if inner, ok := v.escaped(t); ok {
			return w.roundSlots(inner, view{v.found, true}, slots)
		}
		items, last := split(t)
		for _, item := range append(items, last) {
			slots = w.roundSlots(item, v, slots)
		}
	case *vector:
		for _, item := range t.items {
			slots = w.roundSlots(item, v, slots)
		}
	}
	return slots
}

// countRounds: how many those variables have, each of them as many.
func countRounds(slots []int, found []match) (int, api.Errno) {
	if len(slots) == 0 {
		return 0, api.ErrForms
	}
	count := len(found[slots[0]].rounds.items)
	for _, slot := range slots {
		if len(found[slot].rounds.items) != count { // the template is at fault
			return 0, api.ErrForms
		}
	}
	return count, api.OK
}

func (v view) isEllipsis(id identifier) bool {
	return !v.plain && isEllipsis(id)
}

func (v view) isEllipsisForm(f form) bool {
	return !v.plain && isEllipsisForm(f)
}

// ellipsesAt: how many a row of items begins with.
func (v view) ellipsesAt(items []form) int {
	n := 0
	for n < len(items) && v.isEllipsisForm(items[n]) {
		n++
	}
	return n
}

// escaped: T, if a pair begins the list (... T).
func (v view) escaped(p *pair) (form, bool) {
	next, ok := p.second.(*pair)
	if !ok || !v.isEllipsisForm(p.first) || !isNil(next.second) {
		return nil, false
	}
	return next.first, true
}
