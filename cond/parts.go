package cond

import (
	"slices"

	"sextant/api"
	"sextant/datum"
	"sextant/fresh"
	"sextant/lists"
	"sextant/write"
)

func checkPart(part api.Simple) api.Errno {
	switch {
	case !isType(part.Type):
		return api.ErrNone
	case len(part.Fields) != fieldCount(part.Type):
		return api.ErrArg
	case slices.ContainsFunc(part.Fields, isUnsound):
		return api.ErrForm
	}
	return api.OK
}

func isUnsound(d api.Datum) bool {
	return !datum.Sound(d)
}

func freshPart(part api.Simple) api.Simple {
	return api.Simple{Type: part.Type, Fields: fresh.Data(part.Fields)}
}

func withField(t int, field api.Datum) api.Simple {
	return api.Simple{Type: t, Fields: []api.Datum{field}}
}

func isFalse(d api.Datum) bool {
	return d.Kind == api.Bool && d.N == 0
}

// The functions below take a condition that Check has found no fault in; what they answer is still of its memory.

// firstUnder: the first part whose type is under t.
func firstUnder(c []api.Simple, t int) (api.Simple, bool) {
	i := slices.IndexFunc(c, func(part api.Simple) bool { return isUnder(part.Type, t) })
	if i < 0 {
		return api.Simple{}, false
	}
	return c[i], true
}

// fieldOf: the field of the first part whose type is t, which has one field.
func fieldOf(c []api.Simple, t int) (api.Datum, bool) {
	part, ok := firstUnder(c, t)
	if !ok {
		return api.Datum{}, false
	}
	return part.Fields[0], true
}

// irritantsOf: the items of the first irritants, if these are a list.
func irritantsOf(c []api.Simple) []api.Datum {
	list, ok := fieldOf(c, typeIrritants)
	if !ok {
		return nil
	}
	items, _ := lists.Items(list) // nothing beside an error
	return items
}

// headOf: the name of the first serious part's type, or of the type of all conditions, if there is none.
func headOf(c []api.Simple) string {
	t := typeCondition
	if part, ok := firstUnder(c, typeSerious); ok {
		t = part.Type
	}
	one, _ := kindOf(t) // each part's type is one
	return one.name
}

func shown(d api.Datum) string {
	text, _ := write.Display(d) // there is no error, since d is sound
	return text
}

func written(d api.Datum) string {
	text, _ := write.Write(d)
	return text
}
