package imports

import (
	"math"
	"strings"

	"sextant/api"
	"sextant/exact"
)

// The functions below take sound data, and tell whether these are of the form that they ask for.

// itemsOf: those of a list, still of its memory.
func itemsOf(d api.Datum) ([]api.Datum, bool) {
	var items []api.Datum
	for d.Kind == api.Pair {
		items = append(items, d.List[0])
		d = d.List[1]
	}
	return items, d.Kind == api.Nil
}

// each reads all items in one way.
func each[T any](items []api.Datum, read func(d api.Datum) (T, bool)) ([]T, bool) {
	var out []T
	for _, item := range items {
		one, ok := read(item)
		if !ok {
			return nil, false
		}
		out = append(out, one)
	}
	return out, true
}

// cutWord: the symbol that items begin with, and what stands behind it.
func cutWord(items []api.Datum) (word string, rest []api.Datum, ok bool) {
	if len(items) == 0 || items[0].Kind != api.Symbol {
		return "", nil, false
	}
	return items[0].Text, items[1:], true
}

// behind: what stands behind a word in a list that must begin with it.
func behind(word string, d api.Datum) ([]api.Datum, bool) {
	items, ok := itemsOf(d)
	first, rest, begins := cutWord(items)
	return rest, ok && begins && first == word
}

func nameOf(d api.Datum) (string, bool) {
	return strings.Clone(d.Text), d.Kind == api.Symbol
}

func namesOf(items []api.Datum) ([]string, bool) {
	return each(items, nameOf)
}

// twoNamesOf: those of a list of two.
func twoNamesOf(d api.Datum) ([]string, bool) {
	items, isList := itemsOf(d)
	names, ok := namesOf(items)
	return names, ok && isList && len(names) == 2
}

// numberOf: one that a version may have.
func numberOf(d api.Datum) (int, bool) {
	n, e := exact.Small(d.Num) // an error, too, if the datum is no number: then it has none that is sound
	return n, e == api.OK && !isStrange(n)
}

// isStrange: is it a number that no version has?
func isStrange(n int) bool {
	return n < 0 || n > math.MaxInt32
}

// cutName: the symbols of a library's name, and the one item behind them, or the empty list, if there is none.
func cutName(d api.Datum) (name []string, last api.Datum, ok bool) {
	items, isList := itemsOf(d)
	last = api.Datum{Kind: api.Nil}
	if end := len(items) - 1; end >= 0 && items[end].Kind != api.Symbol {
		items, last = items[:end], items[end]
	}
	name, ok = namesOf(items)
	return name, last, ok && isList && len(name) > 0
}
