package expand

import (
	"sextant/api"
	"sextant/equal"
)

func isEllipsis(id identifier) bool { return id.base == "..." }

// isAny: does it match whatever there is?
func isAny(id identifier) bool { return id.base == "_" }

func isEllipsisForm(f form) bool {
	id, ok := f.(identifier)
	return ok && isEllipsis(id)
}

// match is what a variable has matched: a form, or, under an ellipsis, something in each round.
type match struct {
	value  form
	rounds *rounds
	slot   int
}

// rounds are the items that a pattern with an ellipsis has matched. What its variables have matched in one is told when it is asked for: all of it together could be far more than the pattern and the items are.
type rounds struct {
	item  matcher
	items []form
	count int     // of the variables
	told  int     // the round whose matches are there, if any are
	found []match // of that round
}

func (r *rounds) match(round, slot int) match {
	if r.found == nil {
		r.found, r.told = make([]match, r.count), -1
	}
	if r.told != round {
		r.item.gather(r.items[round], r.found)
		r.told = round
	}
	return r.found[slot]
}

// matcher is a pattern that has been read.
type matcher interface {
	matches(f form, u *use) bool
	// gather puts what the variables have matched in a form that matches into their slots.
	gather(f form, found []match)
}

type anything struct{}

// holder is a variable.
type holder struct{ slot int }

type literal struct{ id identifier }

type constantForm struct{ value api.Datum }

type both struct{ first, second matcher }

// repeated is a pattern with an ellipsis behind it, whose variables have the slots from one on.
type repeated struct {
	item        matcher
	from, count int
	behind      matcher
	least       int // pairs that what stands behind must have
}

// row is the items of a vector.
type row struct{ items matcher }

func (anything) matches(form, *use) bool { return true }
func (anything) gather(form, []match)    {}

func (h holder) matches(form, *use) bool      { return true }
func (h holder) gather(f form, found []match) { found[h.slot] = match{value: f} }

func (l literal) matches(f form, u *use) bool {
	id, ok := f.(identifier)
	return ok && u.isSame(id, u.at, l.id, u.of.where)
}

func (l literal) gather(form, []match) {}

func (c constantForm) matches(f form, _ *use) bool {
	a, ok := f.(*atom)
	return ok && equal.Equal(a.value, c.value)
}

func (c constantForm) gather(form, []match) {}

func (b both) matches(f form, u *use) bool {
	p, ok := f.(*pair)
	return ok && b.first.matches(p.first, u) && b.second.matches(p.second, u)
}

func (b both) gather(f form, found []match) {
	if p, ok := f.(*pair); ok {
		b.first.gather(p.first, found)
		b.second.gather(p.second, found)
	}
}

func (r repeated) matches(f form, u *use) bool {
	count := pairs(f) - r.least
	for ; count > 0; count-- {
		p, _ := f.(*pair)
		if !r.item.matches(p.first, u) {
			return false
		}
		f = p.second
	}
	return r.behind.matches(f, u) // too few pairs do not match this
}

func (r repeated) gather(f form, found []match) {
	items, rest := cut(f, pairs(f)-r.least)
	all := &rounds{item: r.item, items: items, count: r.count}
	for slot := range r.count {
		found[r.from+slot] = match{rounds: all, slot: slot}
	}
	r.behind.gather(rest, found)
}

func (r row) matches(f form, u *use) bool {
	v, ok := f.(*vector)
	return ok && r.items.matches(linked(v.items, end()), u)
}

func (r row) gather(f form, found []match) {
	if v, ok := f.(*vector); ok {
		r.items.gather(linked(v.items, end()), found)
	}
}

func end() form { return &atom{api.Datum{Kind: api.Nil}} }

// reading is the work on one pattern. Under an ellipsis slots are counted from those of its item on.
type reading struct {
	literals map[identifier]int
	slots    map[identifier]int
	base     int
	fault    bool
}

func (r *reading) pattern(f form) matcher {
	switch f := f.(type) {
	case identifier:
		return r.identifier(f)
	case *pair:
		return r.list(f, false)
	case *vector:
		return row{r.pattern(linked(f.items, end()))}
	case *atom:
		return constantForm{f.value}
	}
	return anything{}
}

func (r *reading) identifier(id identifier) matcher {
	_, twice := r.slots[id]
	switch {
	case isAny(id):
		return anything{}
	case r.literals[id] > 0:
		return literal{id}
	case isEllipsis(id) || twice: // an ellipsis behind an item is not met, but passed over with it
		r.fault = true
		return anything{}
	}
	slot := len(r.slots)
	r.slots[id] = slot
	return holder{slot - r.base}
}

// list reads a list, of which the part ahead may have had its one item with an ellipsis.
func (r *reading) list(f form, had bool) matcher {
	p, ok := f.(*pair)
	if !ok {
		return r.pattern(f)
	}
	next, ok := p.second.(*pair)
	if !ok || !isEllipsisForm(next.first) {
		first := r.pattern(p.first)
		return both{first, r.list(p.second, had)}
	}
	r.fault = r.fault || had
	from := len(r.slots)
	item := r.under(p.first)
	count := len(r.slots) - from
	return repeated{item, from - r.base, count, r.list(next.second, true), pairs(next.second)}
}

// under reads the item of an ellipsis.
func (r *reading) under(f form) matcher {
	outer := r.base
	r.base = len(r.slots)
	item := r.pattern(f)
	r.base = outer
	return item
}
