package expand

import (
	"strings"

	"sextant/api"
)

// special expands a form of a keyword: what stands behind the keyword, where it stands, and where its core goes.
type special func(x *expansion, parts []form, at *frame, into *api.Core) api.Errno

func specials() map[keyword]special {
	return map[keyword]special{
		"quote":   (*expansion).quote,
		"if":      (*expansion).conditional,
		"set!":    (*expansion).set,
		"begin":   (*expansion).sequence,
		"lambda":  (*expansion).lambda,
		"letrec*": (*expansion).letrec,
	}
}

func (x *expansion) quote(parts []form, _ *frame, into *api.Core) api.Errno {
	if len(parts) != 1 {
		return api.ErrForms
	}
	x.constant(parts[0], into)
	return api.OK
}

func (x *expansion) conditional(parts []form, at *frame, into *api.Core) api.Errno {
	if len(parts) != 2 && len(parts) != 3 {
		return api.ErrForms
	}
	*into = api.Core{Op: api.If, Args: []api.Core{{}, {}, void()}}
	x.eachAhead(parts, at, into.Args)
	return api.OK
}

func (x *expansion) set(parts []form, at *frame, into *api.Core) api.Errno {
	if len(parts) != 2 {
		return api.ErrForms
	}
	id, ok := parts[0].(identifier)
	if !ok {
		return api.ErrForms
	}
	name, e := x.variable(id, at)
	if e != api.OK {
		return e
	}
	*into = api.Core{Op: api.Set, Name: strings.Clone(name), Args: make([]api.Core, 1)}
	x.eachAhead(parts[1:], at, into.Args)
	return api.OK
}

// sequence is of one form or more; one stands for itself.
func (x *expansion) sequence(parts []form, at *frame, into *api.Core) api.Errno {
	switch len(parts) {
	case 0:
		return api.ErrForms
	case 1:
		x.ahead(func() api.Errno { return x.expression(parts[0], at, into) })
		return api.OK
	}
	*into = api.Core{Op: api.Seq, Args: make([]api.Core, len(parts))}
	x.eachAhead(parts, at, into.Args)
	return api.OK
}

func (x *expansion) lambda(parts []form, at *frame, into *api.Core) api.Errno {
	if len(parts) == 0 {
		return api.ErrForms
	}
	ids, rest, ok := formals(parts[0])
	if !ok {
		return api.ErrForms
	}
	inner := at.inner()
	names, e := x.bindVariables(ids, inner)
	if e != api.OK {
		return e
	}
	*into = api.Core{Op: api.Lambda, Params: names, Rest: rest, Args: make([]api.Core, 1)}
	return x.body(parts[1:], inner, &into.Args[0])
}

// formals: the parameters, and whether the last one takes the rest.
func formals(f form) (ids []identifier, rest, ok bool) {
	items, last := split(f)
	if rest = !isNil(last); rest {
		items = append(items, last)
	}
	ids, ok = identifiersOf(items)
	return ids, rest, ok && !anyTwice(ids)
}

func (x *expansion) letrec(parts []form, at *frame, into *api.Core) api.Errno {
	if len(parts) == 0 {
		return api.ErrForms
	}
	ids, values, ok := bindings(parts[0])
	if !ok {
		return api.ErrForms
	}
	inner := at.inner()
	names, e := x.bindVariables(ids, inner)
	if e != api.OK {
		return e
	}
	*into = api.Core{Op: api.Letrec, Params: names, Args: make([]api.Core, len(values)+1)}
	last := &into.Args[len(values)]
	x.ahead(func() api.Errno { return x.body(parts[1:], inner, last) })
	x.eachAhead(values, inner, into.Args)
	return api.OK
}

// bindings: of ((ID E) ..) the IDs, and the Es.
func bindings(f form) (ids []identifier, values []form, ok bool) {
	list, ok := listOf(f)
	if !ok {
		return nil, nil, false
	}
	var names []form
	for _, binding := range list {
		both, ok := listOf(binding)
		if !ok || len(both) != 2 {
			return nil, nil, false
		}
		names, values = append(names, both[0]), append(values, both[1])
	}
	ids, ok = identifiersOf(names)
	return ids, values, ok && !anyTwice(ids)
}
