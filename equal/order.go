package equal

import (
	"bytes"
	"cmp"
	"slices"
	"strings"

	"sextant/api"
	"sextant/exact"
)

// order tells -1, 0 or 1 of data that are known to be sound.
func order(a, b api.Datum) int {
	for a.Kind == api.Pair && b.Kind == api.Pair { // a loop, since there may be far more seconds on a way than MaxDepth
		if first := order(a.List[0], b.List[0]); first != 0 {
			return first
		}
		a, b = a.List[1], b.List[1]
	}
	if a.Kind != b.Kind {
		return cmp.Compare(a.Kind, b.Kind)
	}
	switch a.Kind {
	case api.Bool, api.Char:
		return cmp.Compare(a.N, b.N)
	case api.Number:
		return orderNumbers(a.Num, b.Num)
	case api.String, api.Symbol, api.Other:
		return strings.Compare(a.Text, b.Text) // the bytes of a greater character are greater, so bytes go as characters do
	case api.Bytes:
		return bytes.Compare(a.Raw, b.Raw)
	case api.Vector:
		return orderVectors(a.List, b.List)
	}
	return 0 // Nil and Void
}

func orderVectors(a, b []api.Datum) int {
	if len(a) != len(b) {
		return cmp.Compare(len(a), len(b))
	}
	return slices.CompareFunc(a, b, order)
}

func orderNumbers(a, b api.Num) int {
	if re := orderFractions(a.Re, b.Re); re != 0 {
		return re
	}
	return orderFractions(a.Im, b.Im)
}

func orderFractions(a, b api.Rat) int {
	if sameFraction(a, b) { // ahead of exact.Cmp, which looks for common divisors again: so it is asked at most once in a call
		return 0
	}
	sign, _ := exact.Cmp(realNumber(a), realNumber(b)) // both are sound and real, so there is no error
	return sign
}

func sameFraction(a, b api.Rat) bool {
	return a.Neg == b.Neg && slices.Equal(a.Top, b.Top) && slices.Equal(a.Bot, b.Bot)
}

func realNumber(r api.Rat) api.Num {
	return api.Num{Re: r, Im: exact.Int(0).Im}
}
