package imports

import (
	"cmp"
	"slices"

	"sextant/api"
)

// none is the place of a library that is none of those handed in.
const none = -1

// state is how far the work on a library has come.
type state int

const (
	untouched state = iota
	begun           // what it imports is being put into the list
	placed
)

// ordering is the work on one list of libraries, told by their places in libs.
type ordering struct {
	libs   []api.Library
	states []state
	list   []int
}

// need puts what imports need at the end of the list.
func (o *ordering) need(imports []api.Import) api.Errno {
	for _, i := range imports {
		at, e := o.find(i)
		if e == api.OK && at != none {
			e = o.place(at)
		}
		if e != api.OK {
			return e
		}
	}
	return api.OK
}

// place puts a library at the end of the list, behind all that it needs, unless it stands there already.
func (o *ordering) place(at int) api.Errno {
	switch o.states[at] {
	case begun:
		return api.ErrCycle
	case placed:
		return api.OK
	}
	o.states[at] = begun
	if e := o.need(o.libs[at].Imports); e != api.OK {
		return e
	}
	o.states[at] = placed
	o.list = append(o.list, at)
	return api.OK
}

// find: the place of an import's library.
func (o *ordering) find(i api.Import) (int, api.Errno) {
	outer, inner, ok := levels(i)
	isOther := func(set api.Import) bool { return !isOuter(set) }
	switch {
	case !ok || slices.ContainsFunc(outer, isOther):
		return 0, api.ErrForms
	case slices.Equal(inner.Name, []string{"rnrs"}):
		return none, api.OK
	}
	for at, library := range o.libs {
		if !slices.Equal(library.Name, inner.Name) {
			continue
		}
		fits, e := Version(library.Version, inner.Ref)
		if e == api.ErrArg { // the library is at fault, not the import: a version that is none fits nothing
			continue
		}
		if fits || e != api.OK {
			return at, e
		}
	}
	return 0, api.ErrNone
}

// anyTwice sorts the libraries' places, so that those of one name and one version stand beside each other.
func anyTwice(libs []api.Library) bool {
	places := make([]int, len(libs))
	for i := range places {
		places[i] = i
	}
	compare := func(a, b int) int {
		return cmp.Or(slices.Compare(libs[a].Name, libs[b].Name), slices.Compare(libs[a].Version, libs[b].Version))
	}
	slices.SortFunc(places, compare)
	return len(slices.CompactFunc(places, func(a, b int) bool { return compare(a, b) == 0 })) < len(libs)
}
