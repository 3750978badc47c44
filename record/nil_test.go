package record

import (
	"testing"

	"sextant/api"
)

// P15.5: every call on a nil store, whatever else it is given.
func TestNilStore(t *testing.T) {
	x := tried{t, nil}
	for _, given := range []api.Rtd{{}, rtd("a", -1), rtd("a", 0, "x"), withUid("u", rtd("a", -1, "x!")), rtd("a", -1, "x", "x"), rtd("a", -1, named("f", 17)...), rtd("a", minInt)} {
		x.noType(given, api.ErrArg)
	}
	for _, number := range []int{0, 1, -1, minInt, maxInt} {
		x.noRtd(number, api.ErrArg)
		x.noFields(number, api.ErrArg)
		x.noMake(number, api.ErrArg)
		x.noMake(number, api.ErrArg, sym("a"))
		x.noMake(number, api.ErrArg, api.Datum{})
		x.noTypeOf(number, api.ErrArg)
		for _, r := range []int{0, 1, -1, minInt, maxInt} {
			x.refused(r, number, api.ErrArg)
		}
	}
}

// R1: a store that New has not made is one without types.
func TestZeroStore(t *testing.T) {
	x := tried{t, new(Store)}
	x.noRtd(0, api.ErrNone)
	x.noFields(0, api.ErrNone)
	x.noMake(0, api.ErrNone)
	x.noTypeOf(0, api.ErrNone)
	x.refused(0, 0, api.ErrNone)
	x.noType(api.Rtd{}, api.ErrArg) // its parent is 0, which is not there
	x.typ(rtd("a", -1, "x!"), 0)
	x.make(0, 0, sym("a"))
	x.set(0, 0, 0, sym("b"))
}
