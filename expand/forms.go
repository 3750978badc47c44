package expand

import (
	"slices"
	"strings"

	"sextant/api"
	"sextant/fresh"
)

// form is what a datum is on its way: an identifier, a *pair, a *vector or an *atom. No form is changed once it is made, so that forms may share what they have in common.
type form interface{ extent() extent }

// extent is a form's size as a datum. A pair's second is no deeper than the pair.
type extent struct{ nodes, depth int }

type pair struct {
	first, second form
	size          extent
}

type vector struct {
	items []form
	size  extent
}

// atom is a datum without others in it, but no symbol.
type atom struct{ value api.Datum }

func (id identifier) extent() extent { return extent{1, 1} }
func (a *atom) extent() extent       { return extent{1, 1} }
func (p *pair) extent() extent       { return p.size }
func (v *vector) extent() extent     { return v.size }

func pairOf(first, second form) *pair {
	a, b := first.extent(), second.extent()
	return &pair{first, second, extent{1 + a.nodes + b.nodes, max(a.depth+1, b.depth)}}
}

func vectorOf(items []form) *vector {
	size := extent{1, 1}
	for _, item := range items {
		inside := item.extent()
		size.nodes += inside.nodes
		size.depth = max(size.depth, inside.depth+1)
	}
	return &vector{items, size}
}

// formOf a sound datum: it shares nothing with it, since macros are kept.
func formOf(d api.Datum) form {
	var items []form
	for d.Kind == api.Pair {
		items = append(items, formOf(d.List[0]))
		d = d.List[1]
	}
	return linked(items, formOfLast(d))
}

func formOfLast(d api.Datum) form {
	switch d.Kind {
	case api.Symbol:
		return identifier{base: strings.Clone(d.Text)}
	case api.Vector:
		var items []form
		for _, item := range d.List {
			items = append(items, formOf(item))
		}
		return vectorOf(items)
	}
	return &atom{fresh.Datum(d)}
}

// datumOf: aliases are changed for their bases.
func datumOf(f form) api.Datum {
	items, last := split(f)
	out := datumOfLast(last)
	for _, item := range slices.Backward(items) {
		out = api.Datum{Kind: api.Pair, List: []api.Datum{datumOf(item), out}}
	}
	return out
}

func datumOfLast(f form) api.Datum {
	switch f := f.(type) {
	case identifier:
		return api.Datum{Kind: api.Symbol, Text: strings.Clone(f.base)}
	case *vector:
		out := api.Datum{Kind: api.Vector}
		for _, item := range f.items {
			out.List = append(out.List, datumOf(item))
		}
		return out
	case *atom:
		return fresh.Datum(f.value)
	}
	return api.Datum{}
}

// linked: items in pairs, one behind the other.
func linked(items []form, last form) form {
	for _, item := range slices.Backward(items) {
		last = pairOf(item, last)
	}
	return last
}

// split: the items of a form's pairs, as far as they go, and what stands behind them.
func split(f form) ([]form, form) {
	return cut(f, pairs(f))
}

// cut: the items of so many of a form's pairs, which it must have, and what stands behind them.
func cut(f form, count int) (items []form, rest form) {
	items = make([]form, 0, count)
	for p, ok := f.(*pair); ok && len(items) < count; p, ok = f.(*pair) {
		items, f = append(items, p.first), p.second
	}
	return items, f
}

// pairs: how many a form has, as far as they go.
func pairs(f form) int {
	n := 0
	for p, ok := f.(*pair); ok; p, ok = p.second.(*pair) {
		n++
	}
	return n
}

// listOf: the items of a list, if it is one.
func listOf(f form) ([]form, bool) {
	items, last := split(f)
	return items, isNil(last)
}

func isList(f form) bool {
	for p, ok := f.(*pair); ok; p, ok = f.(*pair) {
		f = p.second
	}
	return isNil(f)
}

func isNil(f form) bool {
	a, ok := f.(*atom)
	return ok && a.value.Kind == api.Nil
}

// identifiersOf: forms that must be identifiers.
func identifiersOf(forms []form) ([]identifier, bool) {
	var ids []identifier
	for _, f := range forms {
		id, ok := f.(identifier)
		if !ok {
			return nil, false
		}
		ids = append(ids, id)
	}
	return ids, true
}

func anyTwice(ids []identifier) bool {
	times := map[identifier]int{}
	for _, id := range ids {
		times[id]++
	}
	return len(times) < len(ids)
}
