package imports

import (
	"strings"

	"sextant/api"
	"sextant/fresh"
)

// bindings are a list of them, and the place of each Name in it.
type bindings struct {
	list   []api.Binding
	places map[string]int
}

// distinct: bindings of which no Name stands twice.
func distinct(list []api.Binding) (bindings, api.Errno) {
	places := map[string]int{}
	for i, binding := range list {
		places[binding.Name] = i
	}
	if len(places) < len(list) {
		return bindings{}, api.ErrTwice
	}
	return bindings{list, places}, api.OK
}

// through: what a set makes of the bindings of the one inside.
func (b bindings) through(set api.Import) (bindings, api.Errno) {
	if !isOuter(set) {
		return bindings{}, api.ErrForms
	}
	var list []api.Binding
	e := api.OK
	switch set.Kind {
	case kindOnly:
		list, e = b.only(set.Names)
	case kindExcept:
		list, e = b.except(set.Names)
	case kindPrefix:
		list = b.prefixed(set.Names[0])
	case kindRename:
		list, e = b.renamed(set.Names)
	}
	if e != api.OK {
		return bindings{}, e
	}
	return distinct(list)
}

func (b bindings) only(names []string) ([]api.Binding, api.Errno) {
	var out []api.Binding
	for _, name := range names {
		at, ok := b.places[name]
		if !ok {
			return nil, api.ErrBound
		}
		out = append(out, b.list[at])
	}
	return out, api.OK
}

func (b bindings) except(names []string) ([]api.Binding, api.Errno) {
	gone := make([]bool, len(b.list))
	for _, name := range names {
		at, ok := b.places[name]
		if !ok {
			return nil, api.ErrBound
		}
		gone[at] = true
	}
	var out []api.Binding
	for i, binding := range b.list {
		if !gone[i] {
			out = append(out, binding)
		}
	}
	return out, api.OK
}

func (b bindings) prefixed(prefix string) []api.Binding {
	out := fresh.List(b.list)
	for i := range out {
		out[i].Name = prefix + out[i].Name
	}
	return out
}

// renamed goes from the last pair to the first, so that of pairs with one first name the first one counts.
func (b bindings) renamed(names []string) ([]api.Binding, api.Errno) {
	out := fresh.List(b.list)
	for i := len(names) - 2; i >= 0; i -= 2 {
		at, ok := b.places[names[i]]
		if !ok {
			return nil, api.ErrBound
		}
		out[at].Name = names[i+1]
	}
	return out, api.OK
}

func freshBindings(list []api.Binding) []api.Binding {
	out := fresh.List(list)
	for i, binding := range out {
		out[i] = api.Binding{Name: strings.Clone(binding.Name), Of: strings.Clone(binding.Of)}
	}
	return out
}
