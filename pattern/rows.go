package pattern

import (
	"slices"

	"sextant/api"
)

func end() api.Datum {
	return api.Datum{Kind: api.Nil}
}

// linked: new pairs of items that are still of the memory they were.
func linked(items []api.Datum, last api.Datum) api.Datum {
	for _, item := range slices.Backward(items) {
		last = api.Datum{Kind: api.Pair, List: []api.Datum{item, last}}
	}
	return last
}

// cut: the items of so many of a datum's pairs, which it must have, and what stands behind them.
func cut(d api.Datum, count int) (items []api.Datum, rest api.Datum) {
	for range count {
		items = append(items, d.List[0])
		d = d.List[1]
	}
	return items, d
}

// pairs: how many a datum has, as far as they go.
func pairs(d api.Datum) int {
	n := 0
	for d.Kind == api.Pair {
		n++
		d = d.List[1]
	}
	return n
}

// nodes: how many a sound datum has.
func nodes(d api.Datum) int {
	n := 1
	for _, item := range d.List {
		n += nodes(item)
	}
	return n
}

// depthOf: of nodes on a way from the whole, those that are a pair's second not counted.
func depthOf(d api.Datum) int {
	below := 0
	for d.Kind == api.Pair {
		below = max(below, depthOf(d.List[0]))
		d = d.List[1]
	}
	for _, item := range d.List {
		below = max(below, depthOf(item))
	}
	return below + 1
}
