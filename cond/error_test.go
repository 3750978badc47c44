package cond

import (
	"slices"
	"testing"

	"sextant/api"
)

// P16.3: the parts in their order: error or assertion, who, message and irritants.
func TestError(t *testing.T) {
	errs(t, sym("car"), one("\"bad argument\""), read("5"), true, condition("6", "8 car", "1 \"bad argument\"", "7 (5)"))
	errs(t, sym("car"), one("\"bad argument\""), read("5"), false, condition("4", "8 car", "1 \"bad argument\"", "7 (5)"))
	errs(t, one("#f"), one("\"no\""), nil, false, condition("4", "1 \"no\"", "7 ()"))
	errs(t, one("#f"), one("\"no\""), []api.Datum{}, true, condition("6", "1 \"no\"", "7 ()"))
	errs(t, one("#t"), one("#f"), read("#f (1 . 2) ()"), true, condition("6", "8 #t", "1 #f", "7 (#f (1 . 2) ())"))
}

// P16.3: no who but the Bool false is left out; a message is never left out.
func TestErrorOfAnyData(t *testing.T) {
	for _, d := range append(someData(), read("#\\x0 #vu8(0) \"#f\" \\x23;f (#f) #(#f)")...) {
		for _, violation := range []bool{false, true} {
			head := map[bool]int{false: 4, true: 6}[violation]
			errs(t, d, sym("m"), nil, violation, []api.Simple{part(head), part(8, d), part(1, sym("m")), part(7, empty())})
			errs(t, no(), d, nil, violation, []api.Simple{part(head), part(1, d), part(7, empty())})
			errs(t, d, d, nil, violation, []api.Simple{part(head), part(8, d), part(1, d), part(7, empty())})
		}
	}
	errs(t, no(), no(), nil, false, []api.Simple{part(4), part(1, no()), part(7, empty())})
}

// P16.3: the irritants are a list of them, in their order, of one, of many and of as many as there may be.
func TestErrorIrritants(t *testing.T) {
	small := someData()[:19]
	for _, irritants := range [][]api.Datum{small, small[3:4], read("() ()"), read("(1 2) (3)"), slices.Repeat(read("a"), 9998), slices.Repeat(read("a"), 9999), {vector(slices.Repeat(read("a"), mostNodes-3)...)}, {nested(deepest - 1), nested(deepest - 1)}} {
		errs(t, no(), sym("m"), irritants, true, []api.Simple{part(6), part(1, sym("m")), part(7, list(irritants...))})
	}
}

// P16.3: ErrForm of data that are not sound, at each place.
func TestErrorUnsound(t *testing.T) {
	for _, bad := range unsound() {
		noError(t, bad, sym("m"))
		noError(t, bad, sym("m"), read("1 2")...)
		noError(t, sym("w"), bad)
		noError(t, no(), bad, read("1 2")...)
		for at := range 4 {
			noError(t, no(), sym("m"), slices.Insert(read("1 2 3"), at, bad)...)
			noError(t, sym("w"), sym("m"), slices.Insert(read("1 2 3"), at, bad)...)
		}
		noError(t, bad, bad, bad)
	}
}

// P16.3: ErrForm of irritants that are sound, but whose list is not, by its size or depth.
func TestErrorLargeLists(t *testing.T) {
	for _, irritants := range [][]api.Datum{slices.Repeat(read("a"), 10000), slices.Repeat(read("a"), mostNodes), slices.Repeat(read("a"), 1000000), {vector(slices.Repeat(read("a"), mostNodes-2)...)}, {vector(slices.Repeat(read("a"), mostNodes-1)...)}, {nested(deepest)}, {sym("a"), nested(deepest), sym("b")}} {
		noError(t, sym("w"), sym("m"), irritants...)
		noError(t, no(), sym("m"), irritants...)
	}
}

// P16.3: what Error answers is a condition.
func TestErrorIsCondition(t *testing.T) {
	for _, d := range someData() {
		for _, violation := range []bool{false, true} {
			c, e := Error(d, d, read("1 2"), violation)
			if e != api.OK {
				t.Fatalf("Error of kind %d: error %d", d.Kind, e)
			}
			isSound(t, c)
		}
	}
}
