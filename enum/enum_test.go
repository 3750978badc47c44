package enum

import (
	"slices"
	"testing"

	"sextant/api"
)

// The chapter's example.
func TestExample(t *testing.T) {
	s, e := New("a", "b", "c")
	checkSet(t, "New", s, e, laid("a b c"), api.OK)
	some, e := Of(s, "c", "a")
	checkSet(t, "Of", some, e, laid("a -b c"), api.OK)
	checkList(t, some, names("a c"), api.OK)
	rest, _ := Complement(some)
	checkList(t, rest, names("b"), api.OK)
	other, _ := New("c", "a")
	checkSubset(t, some, other, true, api.OK)
	far, _ := New("x", "a")
	near, _ := Project(far, s)
	checkList(t, near, names("a"), api.OK)
}

// P14.1: the set of all symbols, in the order in which they came.
func TestNew(t *testing.T) {
	checkNew(t, nil, api.OK)
	checkNew(t, []string{}, api.OK)
	for _, text := range []string{"a", "_", "_ a", "a _", "a b", "b a", "c a b", "b c a _", "A a", "a aa aaa"} {
		checkNew(t, names(text), api.OK)
	}
	for _, symbol := range strange() {
		checkNew(t, []string{symbol}, api.OK)
	}
	checkNew(t, strange(), api.OK)
	backward := strange()
	slices.Reverse(backward)
	checkNew(t, backward, api.OK)
}

// P14.1: a symbol that stands twice, side by side and far apart.
func TestNewTwice(t *testing.T) {
	for _, text := range []string{"a a", "_ _", "a a b", "b a a", "a b a", "_ a b _", "a _ _", "a a a", "a b c d e a", "a b a b", "c b a d b"} {
		checkNew(t, names(text), api.ErrTwice)
	}
	for _, symbol := range strange() {
		checkNew(t, append(strange(), symbol), api.ErrTwice)
		checkNew(t, append([]string{symbol}, strange()...), api.ErrTwice)
	}
}

// P14.1: MaxSymbols symbols and more; a symbol that stands twice is told ahead of their number.
func TestNewLarge(t *testing.T) {
	for _, n := range []int{1, 2, mostSymbols - 1, mostSymbols} {
		checkNew(t, numbered(n), api.OK)
	}
	for _, n := range []int{mostSymbols + 1, mostSymbols + 2, 2 * mostSymbols, 1000, 100000} {
		checkNew(t, numbered(n), api.ErrLarge)
	}
	for _, n := range []int{mostSymbols - 1, mostSymbols, mostSymbols + 1, 1000, 100000} {
		for _, at := range []int{0, 1, n / 2, n - 1} {
			for _, symbol := range []string{"s0", "s1", "s62"} {
				checkNew(t, slices.Insert(numbered(n), at, symbol), api.ErrTwice)
			}
		}
		checkNew(t, slices.Repeat([]string{"a"}, n), api.ErrTwice)
		checkNew(t, slices.Concat(numbered(n), numbered(n)), api.ErrTwice)
	}
}

// P14.1: some symbols of a universe, whatever the set itself has of them.
func TestOf(t *testing.T) {
	for _, universe := range []string{"a b c", "-a -b -c", "a -b c", "-a b -c"} {
		s := laid(universe)
		for _, c := range []struct{ symbols, want string }{
			{"", "-a -b -c"}, {"a", "a -b -c"}, {"b", "-a b -c"}, {"c", "-a -b c"}, {"a b", "a b -c"}, {"c a", "a -b c"}, {"c b a", "a b c"},
			{"a a", "a -b -c"}, {"c a c", "a -b c"}, {"b b b c b", "-a b c"}, {"a b c a b c", "a b c"},
		} {
			checkOf(t, s, names(c.symbols), laid(c.want), api.OK)
		}
		for _, symbols := range []string{"d", "_", "A", "aa", "d a b c", "a d b c", "a b c d", "d d", "a a d", "ab"} {
			checkOf(t, s, names(symbols), Set{}, api.ErrNone)
		}
	}
	checkOf(t, laid("_ -a"), names("_"), laid("_ -a"), api.OK)
	checkOf(t, laid("-_ a"), names("_ _"), laid("_ -a"), api.OK)
	checkOf(t, laid("b -_ a"), names("a"), laid("-b -_ a"), api.OK)
}

// P14.1: of a set without symbols, of a full one, and of more symbols than a set may have.
func TestOfEnds(t *testing.T) {
	checkOf(t, Set{}, nil, Set{}, api.OK)
	checkOf(t, Set{Universe: []string{}, In: []bool{}}, []string{}, Set{}, api.OK)
	for _, symbol := range strange() {
		checkOf(t, Set{}, []string{symbol}, Set{}, api.ErrNone)
	}
	full := allOf(numbered(mostSymbols))
	checkOf(t, full, full.Universe, full, api.OK)
	many := slices.Repeat(full.Universe, 100)
	checkOf(t, full, many, full, api.OK)
	checkOf(t, full, append(many, "s64"), Set{}, api.ErrNone)
	checkOf(t, full, append([]string{"s64"}, many...), Set{}, api.ErrNone)
	for i, symbol := range full.Universe {
		want := Set{Universe: full.Universe, In: make([]bool, mostSymbols)}
		want.In[i] = true
		checkOf(t, full, []string{symbol}, want, api.OK)
	}
}

// P14.1: the empty set, all, the first and the last alone.
func TestList(t *testing.T) {
	for _, c := range []struct{ set, want string }{
		{"", ""}, {"a", "a"}, {"-a", ""}, {"_", "_"}, {"-_", ""}, {"a b c", "a b c"}, {"c b a", "c b a"}, {"-a -b -c", ""},
		{"a -b -c", "a"}, {"-a -b c", "c"}, {"-a b -c", "b"}, {"c -b a", "c a"}, {"-c _ -a", "_"},
	} {
		checkList(t, laid(c.set), names(c.want), api.OK)
	}
	checkList(t, allOf(numbered(mostSymbols)), numbered(mostSymbols), api.OK)
	checkList(t, Set{numbered(mostSymbols), make([]bool, mostSymbols)}, nil, api.OK)
	checkList(t, allOf(strange()), strange(), api.OK)
}

// P14.1: a symbol's place hangs on the universe alone, not on what the set has.
func TestIndex(t *testing.T) {
	for _, set := range []string{"a b c _", "-a -b -c -_", "a -b -c _", "-a b -c -_"} {
		for i, symbol := range names("a b c _") {
			checkIndex(t, laid(set), symbol, i, api.OK)
		}
		for _, symbol := range []string{"d", "A", "ab", "a ", " ", "\x00", "\xff", "-a"} {
			checkIndex(t, laid(set), symbol, 0, api.ErrNone)
		}
	}
	for i, symbol := range numbered(mostSymbols + 1) {
		if i == mostSymbols {
			checkIndex(t, allOf(numbered(mostSymbols)), symbol, 0, api.ErrNone)
			continue
		}
		checkIndex(t, allOf(numbered(mostSymbols)), symbol, i, api.OK)
		checkIndex(t, Set{numbered(mostSymbols), make([]bool, mostSymbols)}, symbol, i, api.OK)
	}
	for i, symbol := range strange() {
		checkIndex(t, allOf(strange()), symbol, i, api.OK)
		checkIndex(t, Set{}, symbol, 0, api.ErrNone)
	}
}
