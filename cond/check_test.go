package cond

import (
	"slices"
	"testing"

	"sextant/api"
)

// P16.2: no parts, one of each type, and as many as there may be.
func TestCheckSound(t *testing.T) {
	isSound(t, nil)
	isSound(t, []api.Simple{})
	for _, one := range eachType() {
		isSound(t, []api.Simple{one})
		isSound(t, slices.Repeat([]api.Simple{one}, mostParts-1))
		isSound(t, slices.Repeat([]api.Simple{one}, mostParts))
	}
	isSound(t, eachType()[:mostParts])
	isSound(t, eachType()[4:])
	isSound(t, []api.Simple{{Type: 4, Fields: []api.Datum{}}})
	for _, d := range someData() {
		isSound(t, []api.Simple{part(1, d), part(12, d, d), part(17, d), part(18, d), part(7, d)})
	}
}

// P16.2: ErrLarge of one part more, ahead of whatever else is at fault, wherever that stands.
func TestCheckLarge(t *testing.T) {
	for _, one := range append(eachType(), faults()...) {
		isFaulty(t, slices.Repeat([]api.Simple{one}, mostParts+1), api.ErrLarge)
	}
	for _, fault := range faults() {
		for at := range mostParts + 1 {
			c := slices.Insert(slices.Repeat([]api.Simple{ofType(4)}, mostParts), at, fault)
			isFaulty(t, c, api.ErrLarge)
		}
	}
	isFaulty(t, eachType(), api.ErrLarge)
	isFaulty(t, make([]api.Simple, 1000), api.ErrLarge)
}

// P16.2: ErrNone of a type that is none, whatever the fields are.
func TestCheckNoType(t *testing.T) {
	for _, number := range noTypes() {
		for _, fields := range [][]api.Datum{nil, read("a"), read("a b"), {{}}, slices.Repeat(read("a"), 50)} {
			isFaultyAnywhere(t, part(number, fields...), api.ErrNone)
		}
	}
}

// P16.2: ErrArg of too few and of too many fields, a parent's counting too, be they sound or not.
func TestCheckFieldCounts(t *testing.T) {
	for number, one := range tree() {
		for _, count := range []int{0, 1, 2, 3, 4, 17, 100} {
			if count == one.fields {
				isSound(t, []api.Simple{ofType(number)})
				continue
			}
			isFaulty(t, []api.Simple{part(number, slices.Repeat(read("a"), count)...)}, api.ErrArg)
			isFaultyAnywhere(t, part(number, slices.Repeat(read("a"), count)...), api.ErrArg)
			isFaulty(t, []api.Simple{part(number, slices.Repeat([]api.Datum{{}}, count)...)}, api.ErrArg)
		}
	}
}

// P16.2: ErrForm of a field that is not sound, at each place.
func TestCheckUnsound(t *testing.T) {
	for _, bad := range unsound() {
		for _, number := range []int{1, 7, 8, 17, 18, 19} {
			isFaulty(t, []api.Simple{part(number, bad)}, api.ErrForm)
		}
		for _, fields := range [][]api.Datum{{bad, sym("a")}, {sym("a"), bad}, {bad, bad}} {
			isFaultyAnywhere(t, part(12, fields...), api.ErrForm)
		}
	}
	isFaultyAnywhere(t, part(1, api.Datum{}), api.ErrForm)
}

// isFaultyAnywhere: the part is at fault first, last and between others.
func isFaultyAnywhere(t *testing.T, fault api.Simple, want api.Errno) {
	t.Helper()
	others := condition("4", "8 car", "1 \"no\"")
	for at := range len(others) + 1 {
		isFaulty(t, slices.Insert(slices.Clone(others), at, fault), want)
	}
	isFaulty(t, append(eachType()[:mostParts-1], fault), want)
}

// faults are parts that are at fault, the ErrNone first, then the ErrArg, then the ErrForm.
func faults() []api.Simple {
	return []api.Simple{part(-1), part(20, api.Datum{}), part(1), part(4, api.Datum{}), part(8, api.Datum{}), part(12, sym("a"), sym("\xff"))}
}

// P16.2: of several parts at fault the first counts.
func TestCheckFirstFault(t *testing.T) {
	errors := []api.Errno{api.ErrNone, api.ErrNone, api.ErrArg, api.ErrArg, api.ErrForm, api.ErrForm}
	for i, first := range faults() {
		for _, second := range faults() {
			isFaulty(t, []api.Simple{first, second}, errors[i])
			isFaulty(t, []api.Simple{ofType(0), first, ofType(1), second, ofType(2)}, errors[i])
			for _, third := range faults() {
				isFaulty(t, []api.Simple{first, second, third}, errors[i])
			}
		}
	}
}
