package lists

import (
	"slices"

	"sextant/api"
	"sextant/datum"
	"sextant/fresh"
)

// listOf: a new list of items that come from one list. It has no more nodes than that one and is no deeper, so it is sound.
func listOf(items []api.Datum) api.Datum {
	return fresh.Datum(linked(items, end()))
}

// fitting: a new list of items that ends with last, if that is sound.
func fitting(items []api.Datum, last api.Datum) (api.Datum, api.Errno) {
	if len(items) > api.MaxNodes { // ahead of linking them, since there is no end to how many there may be
		return api.Datum{}, api.ErrLarge
	}
	whole := linked(items, last)
	if !datum.Sound(whole) {
		return api.Datum{}, api.ErrLarge
	}
	return fresh.Datum(whole), api.OK // no earlier, since data that share memory are small until they are copied
}

// linked: new pairs of items that are still of the memory they were.
func linked(items []api.Datum, last api.Datum) api.Datum {
	for _, item := range slices.Backward(items) {
		last = api.Datum{Kind: api.Pair, List: []api.Datum{item, last}}
	}
	return last
}

func end() api.Datum {
	return api.Datum{Kind: api.Nil}
}
