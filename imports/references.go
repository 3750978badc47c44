package imports

import (
	"slices"

	"sextant/api"
)

// test is what a reference asks of a version, or a sub-reference of one of its numbers.
type test[T any] func(of T) bool

// referenceOf: what a version reference asks.
func referenceOf(d api.Datum) (test[[]int], bool) {
	items, ok := itemsOf(d)
	if !ok {
		return nil, false
	}
	if word, rest, ok := cutWord(items); ok {
		return joined(word, rest, referenceOf)
	}
	return rowOf(items)
}

// rowOf: what sub-references ask of the numbers, place by place.
func rowOf(items []api.Datum) (test[[]int], bool) {
	parts, ok := each(items, subReferenceOf)
	return func(v []int) bool {
		if len(v) < len(parts) {
			return false
		}
		for i, fits := range parts {
			if !fits(v[i]) {
				return false
			}
		}
		return true
	}, ok
}

func subReferenceOf(d api.Datum) (test[int], bool) {
	if bound, ok := numberOf(d); ok {
		return func(n int) bool { return n == bound }, true
	}
	items, isList := itemsOf(d)
	word, rest, ok := cutWord(items)
	switch {
	case !isList || !ok:
		return nil, false
	case word == ">=":
		return boundOf(rest, func(n, bound int) bool { return n >= bound })
	case word == "<=":
		return boundOf(rest, func(n, bound int) bool { return n <= bound })
	}
	return joined(word, rest, subReferenceOf)
}

// boundOf: a test against the one number that the items must be.
func boundOf(items []api.Datum, holds func(n, bound int) bool) (test[int], bool) {
	bounds, ok := each(items, numberOf)
	if !ok || len(bounds) != 1 {
		return nil, false
	}
	return func(n int) bool { return holds(n, bounds[0]) }, true
}

// joined: the tests of an and, an or or a not, which mean the same in references and in sub-references.
func joined[T any](word string, items []api.Datum, read func(d api.Datum) (test[T], bool)) (test[T], bool) {
	parts, ok := each(items, read)
	if !ok {
		return nil, false
	}
	switch {
	case word == "and":
		return func(of T) bool {
			return !slices.ContainsFunc(parts, func(fits test[T]) bool { return !fits(of) })
		}, true
	case word == "or":
		return func(of T) bool {
			return slices.ContainsFunc(parts, func(fits test[T]) bool { return fits(of) })
		}, true
	case word == "not" && len(parts) == 1:
		return func(of T) bool { return !parts[0](of) }, true
	}
	return nil, false
}
