package expand

import (
	"slices"
	"strings"

	"sextant/api"
)

// expansion is the work of one call of Forms.
type expansion struct {
	scope    *Scope
	specials map[keyword]special
	openers  map[keyword]opener
	inside   map[identifier]int // how many inner frames have been given it
	uses     int
	todo     []step // the next one last
	consts   []constant
}

// constant is where a form's datum goes. It is laid down at the end: macros that come to an error in the end may have quoted far more than there is room for.
type constant struct {
	form form
	into *api.Core
}

// step is a part of the work. What it leads to is put on the list of what is to be done, and not done by calls in calls: forms that macros lay down may stand in one another by the million.
type step func() api.Errno

func newExpansion(s *Scope) *expansion {
	return &expansion{scope: s, specials: specials(), openers: openers(), inside: map[identifier]int{}}
}

// top: the definitions and expressions of sound forms, or an error and the place of the form that it was met in.
func (x *expansion) top(forms []api.Datum) ([]api.Core, int, api.Errno) {
	b := &block{at: &x.scope.own}
	for i, d := range forms {
		b.place, b.left = i, []form{formOf(d)}
		if e := x.gather(b); e != api.OK {
			return nil, i, e
		}
	}
	list := make([]api.Core, len(b.parts))
	for i, p := range b.parts {
		if e := x.finish(p, &list[i]); e != api.OK {
			return nil, p.place, e
		}
	}
	for _, c := range x.consts {
		c.into.Value = datumOf(c.form)
	}
	return list, 0, api.OK
}

func (x *expansion) finish(p part, into *api.Core) api.Errno {
	if p.defines {
		*into = api.Core{Op: api.Define, Name: strings.Clone(p.name), Args: make([]api.Core, 1)}
		into = &into.Args[0]
	}
	if e := p.expand(into); e != api.OK {
		return e
	}
	return x.run()
}

// run does what is to be done, from the left, till nothing is left.
func (x *expansion) run() api.Errno {
	for len(x.todo) > 0 {
		last := len(x.todo) - 1
		next := x.todo[last]
		x.todo = x.todo[:last]
		if e := next(); e != api.OK {
			return e
		}
	}
	return api.OK
}

// ahead puts a step ahead of all that is to be done.
func (x *expansion) ahead(s step) {
	x.todo = append(x.todo, s)
}

// eachAhead puts expressions ahead of all that is to be done, the first one first.
func (x *expansion) eachAhead(forms []form, at *frame, into []api.Core) {
	for i, f := range slices.Backward(forms) {
		x.ahead(func() api.Errno { return x.expression(f, at, &into[i]) })
	}
}

func (x *expansion) expression(f form, at *frame, into *api.Core) api.Errno {
	f, e := x.unfold(f, at)
	if e != api.OK {
		return e
	}
	switch f := f.(type) {
	case identifier:
		name, e := x.variable(f, at)
		*into = api.Core{Op: api.Ref, Name: strings.Clone(name)}
		return e
	case *pair:
		return x.compound(f, at, into)
	case *atom:
		return x.itself(f, into)
	}
	return api.ErrForms
}

func (x *expansion) itself(a *atom, into *api.Core) api.Errno {
	switch a.value.Kind {
	case api.Bool, api.Number, api.Char, api.String, api.Bytes:
		x.constant(a, into)
		return api.OK
	}
	return api.ErrForms
}

func (x *expansion) constant(f form, into *api.Core) {
	*into = api.Core{Op: api.Const}
	x.consts = append(x.consts, constant{f, into})
}

func void() api.Core {
	return api.Core{Op: api.Const, Value: api.Datum{Kind: api.Void}}
}

// compound: a special form or a call. A keyword that has no special form as an expression is out of place.
func (x *expansion) compound(p *pair, at *frame, into *api.Core) api.Errno {
	items, ok := listOf(p)
	if !ok {
		return api.ErrForms
	}
	word, ok := x.head(p, at).(keyword)
	if !ok {
		*into = api.Core{Op: api.Call, Args: make([]api.Core, len(items))}
		x.eachAhead(items, at, into.Args)
		return api.OK
	}
	expand, ok := x.specials[word]
	if !ok {
		return api.ErrForms
	}
	return expand(x, items[1:], at, into)
}

// head: what the identifier means that a pair begins with, if it is one.
func (x *expansion) head(p *pair, at *frame) meaning {
	if id, ok := p.first.(identifier); ok {
		return x.means(id, at)
	}
	return nil
}
