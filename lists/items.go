package lists

import (
	"slices"

	"sextant/api"
)

// The lists of items here are new, but the items' own memory is still that of the data they come from: an answer is made of copies of them.

// itemsOf: the items of what must be a list. beside is what else was handed in, since all of it must be sound ahead of that.
func itemsOf(d api.Datum, beside ...api.Datum) ([]api.Datum, api.Errno) {
	if !allSound(d) || !allSound(beside...) {
		return nil, api.ErrForm
	}
	return unlinked(d)
}

// pairsOf: the items of what must be a list of pairs.
func pairsOf(d api.Datum, beside ...api.Datum) ([]api.Datum, api.Errno) {
	items, e := itemsOf(d, beside...)
	switch {
	case e != api.OK:
		return nil, e
	case slices.ContainsFunc(items, func(item api.Datum) bool { return item.Kind != api.Pair }):
		return nil, api.ErrType
	}
	return items, api.OK
}

// joined: the items of several sound data that must be lists.
func joined(list ...api.Datum) ([]api.Datum, api.Errno) {
	var items []api.Datum
	for _, d := range list {
		more, e := unlinked(d)
		if e != api.OK {
			return nil, e
		}
		if len(items) <= api.MaxNodes { // beyond that the answer is too large whatever comes, but what is no list is still to be told
			items = append(items, more...)
		}
	}
	return items, api.OK
}

// unlinked: the items of a sound datum, if it is a list.
func unlinked(d api.Datum) ([]api.Datum, api.Errno) {
	var items []api.Datum
	for d.Kind == api.Pair {
		items = append(items, first(d))
		d = d.List[1]
	}
	if d.Kind != api.Nil {
		return nil, api.ErrType
	}
	return items, api.OK
}

func first(pair api.Datum) api.Datum {
	return pair.List[0]
}
