package expand

import (
	"strconv"

	"sextant/api"
)

// identifier is a symbol, or an alias of an identifier. Two are the same if they are equal.
type identifier struct {
	base  string
	alias *alias // nil: a symbol
}

// alias: what it was made of, and where the macro was defined whose use made it. Each is known by its memory alone.
type alias struct {
	of    identifier
	where *frame
}

// meaning is a keyword, a variable or a *macro; nil is nothing. Two are the same if they are equal.
type meaning any

type keyword string

// variable is its name in the core language.
type variable string

// frame gives meanings to identifiers.
type frame struct {
	outer *frame // nil: it is a scope's own
	scope *frame // the outermost one, of an inner frame
	names map[identifier]meaning
}

func (f *frame) inner() *frame {
	return &frame{outer: f, scope: f.outermost()}
}

func (f *frame) outermost() *frame {
	if f.outer == nil {
		return f
	}
	return f.scope
}

func (f *frame) give(id identifier, m meaning) {
	if f.names == nil {
		f.names = map[identifier]meaning{}
	}
	f.names[id] = m
}

// means: what an identifier means at a place.
func (x *expansion) means(id identifier, at *frame) meaning {
	for {
		if m := x.given(id, at); m != nil || id.alias == nil {
			return m
		}
		id, at = id.alias.of, id.alias.where
	}
}

// given: what the innermost frame that has an identifier says. Macros may nest frames by the thousand, and most identifiers stand in no inner one: for these none is looked at.
func (x *expansion) given(id identifier, at *frame) meaning {
	if x.inside[id] == 0 {
		return at.outermost().names[id]
	}
	for f := at; f != nil; f = f.outer {
		if m := f.names[id]; m != nil {
			return m
		}
	}
	return nil
}

// isSame: does an identifier mean the same at a place as another one does elsewhere?
func (x *expansion) isSame(id identifier, at *frame, other identifier, elsewhere *frame) bool {
	m, n := x.means(id, at), x.means(other, elsewhere)
	if m == nil && n == nil {
		return id.base == other.base
	}
	return m == n
}

// variable: the name of the variable that an identifier must be.
func (x *expansion) variable(id identifier, at *frame) (string, api.Errno) {
	switch m := x.means(id, at).(type) {
	case nil:
		return "", api.ErrBound
	case variable:
		return string(m), api.OK
	}
	return "", api.ErrForms
}

// bind makes an identifier mean something in a frame that has not got it yet.
func (x *expansion) bind(id identifier, at *frame, m meaning) {
	at.give(id, m)
	if at.outer != nil {
		x.inside[id]++
	}
}

// bindVariable binds an identifier as a new variable, and answers its name.
func (x *expansion) bindVariable(id identifier, at *frame) (string, api.Errno) {
	if at.names[id] != nil {
		return "", api.ErrForms
	}
	name, e := x.newName(id, at)
	if e == api.OK {
		x.bind(id, at, variable(name))
	}
	return name, e
}

// newName: a symbol at the top is known by its own text, all else by a number.
func (x *expansion) newName(id identifier, at *frame) (string, api.Errno) {
	if at.outer != nil || id.alias != nil {
		return x.scope.numbered(id.base)
	}
	if x.scope.number == 0 {
		return id.base, api.OK
	}
	return "#" + strconv.Itoa(x.scope.number) + "/" + id.base, api.OK
}

func (s *Scope) numbered(base string) (string, api.Errno) {
	if s.count >= api.MaxLocals {
		return "", api.ErrLarge
	}
	s.count++
	return "#" + strconv.Itoa(s.count) + ":" + base, api.OK
}

// bindVariables binds identifiers that are all different in a new frame, from the left.
func (x *expansion) bindVariables(ids []identifier, at *frame) ([]string, api.Errno) {
	var names []string
	for _, id := range ids {
		name, e := x.bindVariable(id, at)
		if e != api.OK {
			return nil, e
		}
		names = append(names, name)
	}
	return names, api.OK
}
