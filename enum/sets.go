package enum

import (
	"slices"

	"sextant/api"
	"sextant/fresh"
)

// where: the set, in a universe, of the symbols of which belongs is true.
func where(universe []string, belongs func(symbol string) bool) Set {
	in := make([]bool, len(universe))
	for i, symbol := range universe {
		in[i] = belongs(symbol)
	}
	return Set{Universe: fresh.Texts(universe), In: in}
}

// membership tells whether a sound set has a symbol, of whatever universe the symbol is.
func membership(s Set) func(symbol string) bool {
	return func(symbol string) bool {
		i := slices.Index(s.Universe, symbol)
		return i >= 0 && s.In[i]
	}
}

// combined: the set of the symbols that keep takes, as it is told which of two sets of one universe have them.
func combined(a, b Set, keep func(inA, inB bool) bool) (Set, api.Errno) {
	switch {
	case !Sound(a) || !Sound(b):
		return Set{}, api.ErrForm
	case !slices.Equal(a.Universe, b.Universe):
		return Set{}, api.ErrType
	}
	inA, inB := membership(a), membership(b)
	return where(a.Universe, func(symbol string) bool { return keep(inA(symbol), inB(symbol)) }), api.OK
}

// members are the symbols of a sound set; their texts are still the set's own.
func members(s Set) []string {
	var out []string
	for i, symbol := range s.Universe {
		if s.In[i] {
			out = append(out, symbol)
		}
	}
	return out
}

// anyTwice puts a copy in order instead of holding each symbol against each, since New may be handed a great many.
func anyTwice(symbols []string) bool {
	sorted := slices.Sorted(slices.Values(symbols))
	return len(slices.Compact(sorted)) < len(symbols)
}
