package expand

import (
	"slices"

	"sextant/api"
)

// block is the forms of a body, or of the top, which are taken apart one by one.
type block struct {
	at    *frame
	place int    // at the top: of the form that is taken apart
	left  []form // the next one last
	parts []part
}

// part is a definition of a variable, or an expression, and what expands it once all that is defined beside it has a meaning.
type part struct {
	defines bool
	name    string
	place   int
	expand  expander
}

// expander puts a core where it goes.
type expander func(into *api.Core) api.Errno

func (b *block) add(p part) {
	p.place = b.place
	b.parts = append(b.parts, p)
}

// push puts forms ahead of those that are left.
func (b *block) push(forms []form) {
	for _, f := range slices.Backward(forms) {
		b.left = append(b.left, f)
	}
}

func (b *block) pop() form {
	last := len(b.left) - 1
	f := b.left[last]
	b.left = b.left[:last]
	return f
}

// opener takes a form apart that is no expression: what stands behind its keyword.
type opener func(x *expansion, parts []form, b *block) api.Errno

func openers() map[keyword]opener {
	return map[keyword]opener{
		"begin":         (*expansion).open,
		"define":        (*expansion).define,
		"define-syntax": (*expansion).defineSyntax,
	}
}

// nextExpression: the next form that is an expression, if there is one, expanded till it is no use. What stands ahead of it is opened or bound.
func (x *expansion) nextExpression(b *block) (form, bool, api.Errno) {
	for len(b.left) > 0 {
		f, e := x.unfold(b.pop(), b.at)
		if e != api.OK {
			return nil, false, e
		}
		take, ok := x.openerOf(f, b.at)
		if !ok {
			return f, true, api.OK
		}
		items, ok := listOf(f)
		if !ok {
			return nil, false, api.ErrForms
		}
		if e := take(x, items[1:], b); e != api.OK {
			return nil, false, e
		}
	}
	return nil, false, api.OK
}

func (x *expansion) openerOf(f form, at *frame) (opener, bool) {
	p, ok := f.(*pair)
	if !ok {
		return nil, false
	}
	word, ok := x.head(p, at).(keyword)
	if !ok {
		return nil, false
	}
	take, ok := x.openers[word]
	return take, ok
}

// gather: at the top definitions and expressions stand in any order.
func (x *expansion) gather(b *block) api.Errno {
	for {
		f, ok, e := x.nextExpression(b)
		if !ok {
			return e
		}
		b.add(part{expand: func(into *api.Core) api.Errno { return x.expression(f, b.at, into) }})
	}
}

// body: the first expression ends the definitions.
func (x *expansion) body(forms []form, at *frame, into *api.Core) api.Errno {
	b := &block{at: at.inner()}
	b.push(forms)
	first, ok, e := x.nextExpression(b)
	switch {
	case e != api.OK:
		return e
	case !ok:
		return api.ErrForms
	}
	b.push([]form{first})
	slices.Reverse(b.left)
	if len(b.parts) == 0 {
		return x.sequence(b.left, b.at, into)
	}
	return x.withDefinitions(b, into)
}

func (x *expansion) withDefinitions(b *block, into *api.Core) api.Errno {
	count := len(b.parts)
	*into = api.Core{Op: api.Letrec, Args: make([]api.Core, count+1)}
	for _, p := range b.parts {
		into.Params = append(into.Params, p.name)
	}
	e := x.sequence(b.left, b.at, &into.Args[count])
	for i, p := range slices.Backward(b.parts) {
		x.ahead(func() api.Errno { return p.expand(&into.Args[i]) })
	}
	return e
}

func (x *expansion) open(parts []form, b *block) api.Errno {
	b.push(parts)
	return api.OK
}

func (x *expansion) define(parts []form, b *block) api.Errno {
	id, expand, ok := x.definition(parts, b.at)
	if !ok {
		return api.ErrForms
	}
	name, e := x.bindVariable(id, b.at)
	if e != api.OK {
		return e
	}
	b.add(part{defines: true, name: name, expand: expand})
	return api.OK
}

// definition: what is defined, and what expands its value. Of a procedure only the name is looked at here, since all else of it is a lambda's.
func (x *expansion) definition(parts []form, at *frame) (id identifier, expand expander, ok bool) {
	if len(parts) == 0 {
		return identifier{}, nil, false
	}
	if p, isPair := parts[0].(*pair); isPair {
		procedure := append([]form{p.second}, parts[1:]...)
		id, ok = p.first.(identifier)
		return id, func(into *api.Core) api.Errno { return x.lambda(procedure, at, into) }, ok
	}
	id, ok = parts[0].(identifier)
	switch len(parts) {
	case 1:
		return id, nothing, ok
	case 2:
		return id, func(into *api.Core) api.Errno { return x.expression(parts[1], at, into) }, ok
	}
	return identifier{}, nil, false
}

func nothing(into *api.Core) api.Errno {
	*into = void()
	return api.OK
}

func (x *expansion) defineSyntax(parts []form, b *block) api.Errno {
	if len(parts) != 2 {
		return api.ErrForms
	}
	id, ok := parts[0].(identifier)
	if !ok || b.at.names[id] != nil {
		return api.ErrForms
	}
	m, ok := x.macroOf(parts[1], b.at)
	if !ok {
		return api.ErrForms
	}
	x.bind(id, b.at, m)
	return api.OK
}
