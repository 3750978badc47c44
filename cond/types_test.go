package cond

import (
	"slices"
	"testing"

	"sextant/api"
)

// P16.1: each type's parent and name, as the chapter's table has them.
func TestParentAndName(t *testing.T) {
	for number, want := range tree() {
		if got, e := Parent(number); got != want.parent || e != api.OK {
			t.Errorf("Parent(%d): %d, error %d; want %d", number, got, e, want.parent)
		}
		if got, e := Name(number); got != want.name || e != api.OK {
			t.Errorf("Name(%d): %q, error %d; want %q", number, got, e, want.name)
		}
	}
}

// P16.1: ErrNone and nothing beside it, if there is no such type.
func TestNoParentNorName(t *testing.T) {
	for _, number := range noTypes() {
		if got, e := Parent(number); got != 0 || e != api.ErrNone {
			t.Errorf("Parent(%d): %d, error %d", number, got, e)
		}
		if got, e := Name(number); got != "" || e != api.ErrNone {
			t.Errorf("Name(%d): %q, error %d", number, got, e)
		}
	}
}

// P16.1: a type is under itself and its parents, and under no other.
func TestUnder(t *testing.T) {
	for number, one := range tree() {
		for of := range tree() {
			want := slices.Contains(one.under, of)
			if got, e := Under(number, of); got != want || e != api.OK {
				t.Errorf("Under(%d, %d): %v, error %d; want %v", number, of, got, e, want)
			}
		}
	}
}

// P16.1: ErrNone, if the one or the other is none, or both are, be they the same or not.
func TestUnderNone(t *testing.T) {
	for _, number := range noTypes() {
		for of := range tree() {
			noUnder(t, number, of)
			noUnder(t, of, number)
		}
		for _, of := range noTypes() {
			noUnder(t, number, of)
		}
	}
}

func noUnder(t *testing.T, number, of int) {
	t.Helper()
	if got, e := Under(number, of); got || e != api.ErrNone {
		t.Errorf("Under(%d, %d): %v, error %d; want error %d", number, of, got, e, api.ErrNone)
	}
}
