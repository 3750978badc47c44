package table

import (
	"slices"
	"testing"

	"sextant/api"
)

// P13.4: every call on a nil table, whatever else it is given.
func TestNilTable(t *testing.T) {
	x := tried{t, nil}
	for _, key := range slices.Concat(someData(), unsound()) {
		x.refused(key, api.ErrArg)
		for _, value := range unsound() {
			x.noSet(key, value, api.ErrArg)
		}
	}
	x.keys()
	x.x.Clear()
	x.keys()
	if x.x.Copy() != nil {
		t.Error("Copy of a nil table is one")
	}
}

// R1: a table that New has not made is of no kind, and takes no key.
func TestZeroTable(t *testing.T) {
	for _, x := range []tried{{t, new(Table)}, {t, new(Table).Copy()}} {
		for range 2 {
			for _, key := range slices.Concat(someData(), unsound()) {
				x.refused(key, api.ErrArg)
			}
			x.keys()
			x.x.Clear()
		}
	}
}
