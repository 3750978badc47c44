package expand

import "sextant/api"

// macro: its rules, and where it was defined.
type macro struct {
	where *frame
	rules []rule
}

type rule struct {
	pattern  matcher
	slots    map[identifier]int // of the pattern's variables
	template form
}

// macroOf: (syntax-rules (ID ..) (PATTERN TEMPLATE) ..), without a fault in a pattern.
func (x *expansion) macroOf(f form, at *frame) (*macro, bool) {
	p, ok := f.(*pair)
	if !ok || x.head(p, at) != keyword("syntax-rules") {
		return nil, false
	}
	items, ok := listOf(p)
	if !ok || len(items) < 2 {
		return nil, false
	}
	literals, ok := literalsOf(items[1])
	if !ok {
		return nil, false
	}
	m := &macro{where: at}
	for _, item := range items[2:] {
		r, ok := ruleOf(item, literals)
		if !ok {
			return nil, false
		}
		m.rules = append(m.rules, r)
	}
	return m, true
}

// literalsOf a list of them: how often each stands there.
func literalsOf(f form) (map[identifier]int, bool) {
	items, ok := listOf(f)
	if !ok {
		return nil, false
	}
	ids, ok := identifiersOf(items)
	times := map[identifier]int{}
	for _, id := range ids {
		times[id]++
		ok = ok && !isEllipsis(id) && !isAny(id)
	}
	return times, ok
}

// ruleOf: the pattern's first is the macro's own name, or anything else.
func ruleOf(f form, literals map[identifier]int) (rule, bool) {
	both, ok := listOf(f)
	if !ok || len(both) != 2 {
		return rule{}, false
	}
	p, ok := both[0].(*pair)
	if !ok {
		return rule{}, false
	}
	r := reading{literals: literals, slots: map[identifier]int{}}
	pattern := r.pattern(p.second)
	return rule{pattern, r.slots, both[1]}, !r.fault
}

// use is one of a macro.
type use struct {
	*expansion
	of      *macro
	at      *frame
	aliases map[identifier]identifier // that it has made
}

// unfold: a form, expanded as long as it is a use.
func (x *expansion) unfold(f form, at *frame) (form, api.Errno) {
	for {
		p, ok := f.(*pair)
		if !ok {
			return f, api.OK
		}
		m, ok := x.head(p, at).(*macro)
		if !ok {
			return f, api.OK
		}
		u := use{x, m, at, map[identifier]identifier{}}
		out, e := u.outcome(p)
		if e != api.OK {
			return nil, e
		}
		f = out
	}
}

func (u *use) outcome(p *pair) (form, api.Errno) {
	if !isList(p) {
		return nil, api.ErrForms
	}
	u.uses++
	if u.uses > api.MaxBatch {
		return nil, api.ErrLarge
	}
	for _, r := range u.of.rules {
		if r.pattern.matches(p.second, u) {
			found := make([]match, len(r.slots))
			r.pattern.gather(p.second, found)
			return u.fill(r, found)
		}
	}
	return nil, api.ErrForms
}

// aliasFor: the same one for the same identifier.
func (u *use) aliasFor(id identifier) identifier {
	made, ok := u.aliases[id]
	if !ok {
		made = identifier{id.base, &alias{id, u.of.where}}
		u.aliases[id] = made
	}
	return made
}
