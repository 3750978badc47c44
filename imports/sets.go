package imports

import (
	"slices"

	"sextant/api"
	"sextant/fresh"
)

// The kinds of an import set.
const (
	kindLibrary = 0
	kindOnly    = 1
	kindExcept  = 2
	kindPrefix  = 3
	kindRename  = 4
)

// mostLevels is how deep the document lets parts stand in one another. Sets may go round in a circle, and only what has an end can be gone through.
const mostLevels = 1 << 16

func setOf(d api.Datum) (api.Import, bool) {
	items, isList := itemsOf(d)
	word, rest, ok := cutWord(items)
	if !isList || !ok {
		return api.Import{}, false
	}
	switch word {
	case "only":
		return outerOf(kindOnly, rest, namesOf)
	case "except":
		return outerOf(kindExcept, rest, namesOf)
	case "prefix":
		return outerOf(kindPrefix, rest, namesOf)
	case "rename":
		return outerOf(kindRename, rest, pairsOf)
	case "for":
		if len(rest) == 0 {
			return api.Import{}, false
		}
		return setOf(rest[0])
	case "library":
		if len(rest) != 1 {
			return api.Import{}, false
		}
		return innerOf(rest[0])
	}
	return innerOf(d)
}

// innerOf: a library's name, perhaps with a reference.
func innerOf(d api.Datum) (api.Import, bool) {
	name, ref, ok := cutName(d)
	_, fine := referenceOf(ref)
	return api.Import{Kind: kindLibrary, Name: name, Ref: fresh.Datum(ref)}, ok && fine
}

// outerOf: a set of another one, which is the first of the items; the names are read of those behind it.
func outerOf(kind int, items []api.Datum, read func(items []api.Datum) ([]string, bool)) (api.Import, bool) {
	if len(items) == 0 {
		return api.Import{}, false
	}
	inner, ok := setOf(items[0])
	names, fine := read(items[1:])
	set := api.Import{Kind: kind, Of: []api.Import{inner}, Names: names}
	return set, ok && fine && isOuter(set)
}

// pairsOf: the names of lists of two, one behind the other.
func pairsOf(items []api.Datum) ([]string, bool) {
	pairs, ok := each(items, twoNamesOf)
	return slices.Concat(pairs...), ok
}

// isOuter: is it a kind of set of another one, with as many names as that asks for?
func isOuter(set api.Import) bool {
	switch set.Kind {
	case kindOnly, kindExcept:
		return true
	case kindPrefix:
		return len(set.Names) == 1
	case kindRename:
		return len(set.Names)%2 == 0
	}
	return false
}

// levels: the sets of others that stand in one another, the outermost first, and the library that they come to; not ok, if they come to none. Whether each is as its kind asks is not looked at.
func levels(i api.Import) (outer []api.Import, inner api.Import, ok bool) {
	for i.Kind != kindLibrary && len(i.Of) == 1 && len(outer) < mostLevels {
		outer = append(outer, i)
		i = i.Of[0]
	}
	return outer, i, i.Kind == kindLibrary && len(i.Of) == 0
}
