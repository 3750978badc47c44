package enum

import (
	"slices"
	"testing"

	"sextant/api"
)

// unsound are sets that are none, each for another reason.
func unsound() []Set {
	roomy := []bool{true, true, true}
	out := []Set{
		laid("a a"), laid("a -a"), laid("-a a"), laid("-a -a"), laid("_ _"), laid("a b a"), laid("-a b c -a"), laid("b a a"), laid("c b a d b"),
		allOf(numbered(mostSymbols + 1)), allOf(numbered(1000)), {numbered(mostSymbols + 1), make([]bool, mostSymbols+1)},
		allOf(append(numbered(mostSymbols-1), "s0")), allOf(append(numbered(mostSymbols), "s0")), allOf(append(numbered(mostSymbols-1), "s62")),
		{Universe: []string{"a"}}, {Universe: []string{""}}, {In: []bool{true}}, {In: []bool{false}},
		{names("a b"), []bool{true}}, {names("a b"), []bool{true, false, true}}, {names("a b"), nil}, {names("a b"), roomy[:1]}, {names("a b")[:1], roomy[:2]},
		{numbered(mostSymbols), make([]bool, mostSymbols-1)}, {numbered(mostSymbols), make([]bool, mostSymbols+1)},
		{numbered(mostSymbols + 1), make([]bool, mostSymbols)}, {numbered(mostSymbols - 1), make([]bool, mostSymbols)},
		{names("a b")[:0], roomy[:1]}, {names("a b"), make([]bool, 100000)},
	}
	for _, symbol := range strange() {
		out = append(out, allOf([]string{symbol, symbol}), allOf(append(strange(), symbol)))
	}
	return out
}

// sound are sets near those that are not.
func sound() []Set {
	return append(smallSets(), Set{Universe: []string{}, In: []bool{}}, Set{names("a b")[:0], make([]bool, 3)[:0]}, Set{names("a b a")[:2], make([]bool, 3)[:2]},
		allOf(numbered(mostSymbols-1)), allOf(numbered(mostSymbols)), Set{numbered(mostSymbols), make([]bool, mostSymbols)}, allOf(strange()))
}

func TestSound(t *testing.T) {
	for _, s := range sound() {
		if !Sound(s) {
			t.Errorf("Sound(%s): false", told(s))
		}
	}
	for _, s := range unsound() {
		if Sound(s) {
			t.Errorf("Sound(%s): true", told(s))
		}
	}
}

// Each call but New and Sound refuses a set that is not sound, ahead of ErrNone.
func TestUnsoundSet(t *testing.T) {
	for _, s := range unsound() {
		checkList(t, s, nil, api.ErrForm)
		checkComplement(t, s, Set{}, api.ErrForm)
		for _, symbol := range append(strange(), "s0", "s63", "s64", "b", "no such symbol") {
			checkIndex(t, s, symbol, 0, api.ErrForm)
			checkOf(t, s, []string{symbol}, Set{}, api.ErrForm)
		}
		checkOf(t, s, nil, Set{}, api.ErrForm)
		checkOf(t, s, s.Universe, Set{}, api.ErrForm)
		checkOf(t, s, append(slices.Clone(s.Universe), "no such symbol"), Set{}, api.ErrForm)
	}
}

// Each call of two sets refuses one that is not sound in either place, and in both, ahead of ErrType.
func TestUnsoundPairs(t *testing.T) {
	for _, bad := range unsound() {
		checkUnsoundPair(t, bad, bad)
		for _, good := range []Set{{}, laid("a b"), laid("-a"), allOf(numbered(mostSymbols)), {bad.Universe[:0], nil}} {
			checkUnsoundPair(t, bad, good)
			checkUnsoundPair(t, good, bad)
		}
		for _, other := range unsound() {
			checkUnsoundPair(t, bad, other)
		}
	}
}

func checkUnsoundPair(t *testing.T, a, b Set) {
	t.Helper()
	for _, c := range calls() {
		c.check(t, a, b, Set{}, api.ErrForm)
	}
	checkSubset(t, a, b, false, api.ErrForm)
}

// What the calls answer is sound.
func TestAnswersAreSound(t *testing.T) {
	check := func(s Set, e api.Errno) {
		t.Helper()
		if e == api.OK && !Sound(s) {
			t.Errorf("an answer that is not sound: %s", told(s))
		}
	}
	for _, a := range sound() {
		check(New(a.Universe...))
		check(Of(a, a.Universe...))
		check(Complement(a))
		for _, b := range sound() {
			for _, c := range calls() {
				check(c.do(a, b))
			}
		}
	}
}
