package enum

import (
	"slices"
	"testing"

	"sextant/api"
)

// P14.2: two sets of one universe, with each symbol in both, in one, in the other and in none.
func TestOneUniverse(t *testing.T) {
	a, b := laid("a b -c -d"), laid("a -b c -d")
	for i, want := range []string{"a b c -d", "a -b -c -d", "-a b -c -d", "a b -c -d"} {
		calls()[i].check(t, a, b, laid(want), api.OK)
	}
	for i, want := range []string{"a b c -d", "a -b -c -d", "-a -b c -d", "a -b c -d"} {
		calls()[i].check(t, b, a, laid(want), api.OK)
	}
}

// P14.2: a set with itself, with none, with all and with its complement.
func TestLaws(t *testing.T) {
	for _, s := range append(smallSets(), allOf(numbered(mostSymbols)), allOf(strange())) {
		none, all := Set{s.Universe, make([]bool, len(s.In))}, allOf(s.Universe)
		rest, _ := Complement(s)
		for _, c := range []struct{ b, union, meet, minus Set }{
			{s, s, s, none}, {none, s, none, s}, {all, all, s, none}, {rest, all, none, s},
		} {
			for i, want := range []Set{c.union, c.meet, c.minus, s} {
				calls()[i].check(t, s, c.b, want, api.OK)
			}
		}
		checkComplement(t, rest, s, api.OK)
		checkComplement(t, none, all, api.OK)
		checkComplement(t, all, none, api.OK)
	}
}

// P14.2: universes that are not the same list: the same symbols in another order, one that begins the other, others.
func TestOtherUniverses(t *testing.T) {
	pairs := [][2]string{
		{"a b", "b a"}, {"a b c", "a c b"}, {"a b c", "b c a"}, {"a", "a b"}, {"a b", "a b -c"}, {"a", "-a -_"}, {"", "a"}, {"", "-_"}, {"a", "_"},
		{"a", "b"}, {"a", "A"}, {"a b", "a c"}, {"b a", "c a"}, {"-a -b", "-b -a"}, {"a b", "ab"}, {"a", "b a"},
	}
	for _, p := range pairs {
		for _, c := range calls()[:3] {
			c.check(t, laid(p[0]), laid(p[1]), Set{}, api.ErrType)
			c.check(t, laid(p[1]), laid(p[0]), Set{}, api.ErrType)
		}
	}
	full := allOf(numbered(mostSymbols))
	other := slices.Clone(full.Universe)
	other[mostSymbols-1] = "other"
	for _, c := range calls()[:3] {
		c.check(t, full, allOf(other), Set{}, api.ErrType)
		c.check(t, full, allOf(full.Universe[:mostSymbols-1]), Set{}, api.ErrType)
	}
}

// P14.2: what is not in a set of one symbol, of none, of all, of some.
func TestComplement(t *testing.T) {
	for _, c := range [][2]string{
		{"", ""}, {"a", "-a"}, {"-a", "a"}, {"_", "-_"}, {"a b c", "-a -b -c"}, {"a -b c", "-a b -c"}, {"a -b -c", "-a b c"}, {"-c -_ a", "c _ -a"},
	} {
		checkComplement(t, laid(c[0]), laid(c[1]), api.OK)
	}
	full := numbered(mostSymbols)
	checkComplement(t, allOf(full), Set{full, make([]bool, mostSymbols)}, api.OK)
	checkComplement(t, Set{full, make([]bool, mostSymbols)}, allOf(full), api.OK)
}

// P14.2: sets of one universe and of any two.
func TestSubset(t *testing.T) {
	for _, c := range []struct {
		a, b string
		want bool
	}{
		{"a -b c", "a b c", true}, {"a b c", "a -b c", false}, {"a -b c", "a -b c", true}, {"-a -b", "-a -b", true}, {"a -b", "-a b", false},
		{"a b", "b a", true}, {"a b", "c b d a", true}, {"a -b", "a", true}, {"a -b", "-c a", true}, // b's universe lacks one that only a's universe has
		{"a b", "a", false}, {"b a", "a", false}, {"a", "b", false}, {"a b", "a c", false}, // it lacks one that a has
		{"a b", "a -b", false}, {"a b", "-b a c", false}, {"a", "-a", false}, {"-a b", "a -b", false}, // it has it and b has not
		{"", "", true}, {"", "a", true}, {"", "-a", true}, {"a", "", false}, {"-a", "", true}, {"-a -b", "c", true},
		{"_", "", false}, {"-_", "", true}, {"_", "a _", true}, {"_", "a -_", false}, {"a", "A aa _", false},
	} {
		checkSubset(t, laid(c.a), laid(c.b), c.want, api.OK)
	}
	full := allOf(numbered(mostSymbols))
	none := Set{full.Universe, make([]bool, mostSymbols)}
	checkSubset(t, full, full, true, api.OK)
	checkSubset(t, none, full, true, api.OK)
	checkSubset(t, full, none, false, api.OK)
	for i := range mostSymbols {
		lacking := allOf(full.Universe)
		lacking.In[i] = false
		checkSubset(t, lacking, full, true, api.OK)
		checkSubset(t, full, lacking, false, api.OK)
		smaller := allOf(slices.Delete(numbered(mostSymbols), i, i+1))
		checkSubset(t, lacking, smaller, true, api.OK)
		checkSubset(t, full, smaller, false, api.OK)
	}
}

// P14.2: to a wider universe, a narrower one, one in another order, one that shares nothing; what b has of its universe does not matter.
func TestProject(t *testing.T) {
	for _, c := range [][3]string{
		{"x a", "a b c", "a -b -c"},
		{"a -b", "a b c", "a -b -c"}, {"a b", "c b a", "-c b a"}, {"a b", "-x a -y b -z", "-x a -y b -z"},
		{"a b c", "b", "b"}, {"a b c", "-b", "b"}, {"a -b c", "b", "-b"}, {"a -b c", "b c", "-b c"},
		{"a -b c", "c b a", "c -b a"}, {"a b -c", "-b -c -a", "b -c a"},
		{"a b", "c d", "-c -d"}, {"a", "A aa _", "-A -aa -_"},
		{"", "a b", "-a -b"}, {"", "", ""}, {"a b", "", ""}, {"-a", "a", "-a"}, {"_ -a", "a -_", "-a _"},
	} {
		calls()[3].check(t, laid(c[0]), laid(c[1]), laid(c[2]), api.OK)
	}
	full := numbered(mostSymbols)
	backward := numbered(mostSymbols)
	slices.Reverse(backward)
	calls()[3].check(t, allOf(full), Set{backward, make([]bool, mostSymbols)}, allOf(backward), api.OK)
	calls()[3].check(t, allOf(full), allOf(strange()), Set{strange(), make([]bool, len(strange()))}, api.OK)
}
