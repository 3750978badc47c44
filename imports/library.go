package imports

import (
	"slices"
	"strings"

	"sextant/api"
	"sextant/fresh"
)

// libraryOf: one by its form. A Name of its exports may stand twice.
func libraryOf(d api.Datum) (api.Library, bool) {
	parts, ok := behind("library", d)
	if !ok || len(parts) < 3 {
		return api.Library{}, false
	}
	name, version, named := nameAndVersion(parts[0])
	exports, exporting := exportsOf(parts[1])
	imports, importing := importsOf(parts[2])
	if !named || !exporting || !importing {
		return api.Library{}, false
	}
	return api.Library{Name: name, Version: version, Exports: exports, Imports: imports, Body: fresh.Data(parts[3:])}, true
}

func nameAndVersion(d api.Datum) (name []string, version []int, ok bool) {
	name, last, ok := cutName(d)
	numbers, isList := itemsOf(last)
	version, fine := each(numbers, numberOf)
	return name, version, ok && isList && fine
}

func exportsOf(d api.Datum) ([]api.Binding, bool) {
	items, ok := behind("export", d)
	exports, fine := each(items, exportOf)
	return slices.Concat(exports...), ok && fine
}

// exportOf: the bindings of one item.
func exportOf(d api.Datum) ([]api.Binding, bool) {
	if name, ok := nameOf(d); ok {
		return []api.Binding{{Name: name, Of: strings.Clone(name)}}, true
	}
	items, ok := behind("rename", d)
	renamed, fine := each(items, renamedOf)
	return renamed, ok && fine
}

// renamedOf: the binding of a list of the names inside and outside.
func renamedOf(d api.Datum) (api.Binding, bool) {
	names, ok := twoNamesOf(d)
	if !ok {
		return api.Binding{}, false
	}
	return api.Binding{Name: names[1], Of: names[0]}, true
}

func importsOf(d api.Datum) ([]api.Import, bool) {
	items, ok := behind("import", d)
	sets, fine := each(items, setOf)
	return sets, ok && fine
}
