package lists

import (
	"slices"
	"strings"

	"sextant/api"
	"sextant/datum"
)

// listOf: a new list of items that come from one list. It has no more nodes than that one and is no deeper, so it is sound.
func listOf(items []api.Datum) api.Datum {
	return copied(linked(items, end()))
}

// fitting: a new list of items that ends with last, if that is sound.
func fitting(items []api.Datum, last api.Datum) (api.Datum, api.Errno) {
	if len(items) > api.MaxNodes { // ahead of linking them, since there is no end to how many there may be
		return api.Datum{}, api.ErrLarge
	}
	whole := linked(items, last)
	if !datum.Sound(whole) {
		return api.Datum{}, api.ErrLarge
	}
	return copied(whole), api.OK // no earlier, since data that share memory are small until they are copied
}

// linked: new pairs of items that are still of the memory they were.
func linked(items []api.Datum, last api.Datum) api.Datum {
	for _, item := range slices.Backward(items) {
		last = api.Datum{Kind: api.Pair, List: []api.Datum{item, last}}
	}
	return last
}

func end() api.Datum {
	return api.Datum{Kind: api.Nil}
}

// copied: a sound datum in new memory, texts too, which may be pieces of long ones that would be kept with them.
func copied(d api.Datum) api.Datum {
	return api.Datum{
		Kind: d.Kind,
		N:    d.N,
		Num:  api.Num{Re: copiedFraction(d.Num.Re), Im: copiedFraction(d.Num.Im)},
		Text: strings.Clone(d.Text),
		Raw:  copiedList(d.Raw),
		List: copiedAll(d.List),
	}
}

func copiedAll(data []api.Datum) []api.Datum {
	out := copiedList(data)
	for i, d := range out {
		out[i] = copied(d)
	}
	return out
}

func copiedFraction(r api.Rat) api.Rat {
	return api.Rat{Neg: r.Neg, Top: copiedList(r.Top), Bot: copiedList(r.Bot)}
}

// copiedList begins with nil: slices.Clone of a list without items would go on pointing to its room.
func copiedList[T any](list []T) []T {
	return append([]T(nil), list...)
}
