package enum

import (
	"slices"
	"strconv"
	"strings"
	"testing"

	"sextant/api"
)

// The limit written out, so that the tests do not follow a slip of the program's.
const mostSymbols = 64

// laid is a set as a text tells it, symbol by symbol: one that is not in the set has a - ahead of it, and _ is the empty symbol.
func laid(text string) Set {
	var s Set
	for _, word := range strings.Fields(text) {
		symbol, out := strings.CutPrefix(word, "-")
		s.Universe = append(s.Universe, strings.ReplaceAll(symbol, "_", ""))
		s.In = append(s.In, !out)
	}
	return s
}

// names are the symbols of a text, told as laid has them.
func names(text string) []string { return laid(text).Universe }

// numbered are so many symbols, none twice.
func numbered(n int) []string {
	var out []string
	for i := range n {
		out = append(out, "s"+strconv.Itoa(i))
	}
	return out
}

// allOf is the set of all symbols of a universe, sound or not.
func allOf(universe []string) Set {
	return Set{Universe: universe, In: slices.Repeat([]bool{true}, len(universe))}
}

func same(a, b Set) bool {
	return slices.Equal(a.Universe, b.Universe) && slices.Equal(a.In, b.In)
}

// told is a set for a test's log; it may be no sound one.
func told(s Set) string {
	var out strings.Builder
	for _, symbol := range s.Universe[:min(len(s.Universe), 70)] {
		out.WriteString(strconv.Quote(symbol[:min(len(symbol), 10)]) + " ")
	}
	for _, in := range s.In[:min(len(s.In), 70)] {
		out.WriteString(map[bool]string{true: "+", false: "-"}[in])
	}
	return out.String()
}

// checkSet holds an answer against what it should be; beside an error that is the zero set.
func checkSet(t *testing.T, name string, got Set, e api.Errno, want Set, wantError api.Errno, given ...Set) {
	t.Helper()
	if wantError != api.OK {
		want = Set{}
	}
	if e != wantError || !same(got, want) {
		for _, s := range given {
			name += "; " + told(s)
		}
		t.Errorf("%s: %s, error %d; want %s, error %d", name, told(got), e, told(want), wantError)
	}
}

func checkNew(t *testing.T, symbols []string, want api.Errno) {
	t.Helper()
	got, e := New(symbols...)
	checkSet(t, "New", got, e, allOf(symbols), want, Set{Universe: symbols})
}

func checkOf(t *testing.T, s Set, symbols []string, want Set, wantError api.Errno) {
	t.Helper()
	got, e := Of(s, symbols...)
	checkSet(t, "Of", got, e, want, wantError, s, Set{Universe: symbols})
}

func checkList(t *testing.T, s Set, want []string, wantError api.Errno) {
	t.Helper()
	if got, e := List(s); e != wantError || !slices.Equal(got, want) {
		t.Errorf("List(%s): %q, error %d; want %q, error %d", told(s), got, e, want, wantError)
	}
}

func checkIndex(t *testing.T, s Set, symbol string, want int, wantError api.Errno) {
	t.Helper()
	if got, e := Index(s, symbol); e != wantError || got != want {
		t.Errorf("Index(%s; %q): %d, error %d; want %d, error %d", told(s), symbol, got, e, want, wantError)
	}
}

func checkComplement(t *testing.T, s, want Set, wantError api.Errno) {
	t.Helper()
	got, e := Complement(s)
	checkSet(t, "Complement", got, e, want, wantError, s)
}

func checkSubset(t *testing.T, a, b Set, want bool, wantError api.Errno) {
	t.Helper()
	if got, e := Subset(a, b); e != wantError || got != want {
		t.Errorf("Subset(%s; %s): %v, error %d; want %v, error %d", told(a), told(b), got, e, want, wantError)
	}
}

// call is a call of two sets that answers one.
type call struct {
	name string
	do   func(a, b Set) (Set, api.Errno)
}

// calls are all of them; the first three are those of one universe.
func calls() []call {
	return []call{{"Union", Union}, {"Meet", Meet}, {"Minus", Minus}, {"Project", Project}}
}

func (c call) check(t *testing.T, a, b, want Set, wantError api.Errno) {
	t.Helper()
	got, e := c.do(a, b)
	checkSet(t, c.name, got, e, want, wantError, a, b)
}

// smallSets are all sets whose universes are rows of at most three of four symbols.
func smallSets() []Set {
	var out []Set
	var grow func(s Set)
	grow = func(s Set) {
		out = append(out, s)
		if len(s.Universe) == 3 {
			return
		}
		for _, symbol := range []string{"a", "b", "ab", ""} {
			if slices.Contains(s.Universe, symbol) {
				continue
			}
			for _, in := range []bool{false, true} {
				grow(Set{Universe: append(slices.Clone(s.Universe), symbol), In: append(slices.Clone(s.In), in)})
			}
		}
	}
	grow(Set{})
	return out
}

// strange are texts that are near one another and yet no two the same symbol.
func strange() []string {
	return []string{"", " ", "\x00", "\x00\x00", "a", "A", "a\x00", "a ", " a", "aa", "é", "e\u0301", "ß", "ss", "\xff", "\xfe", "\uFFFD", "\xff\xff", "\xed\xa0\x80", strings.Repeat("a", 100000), strings.Repeat("a", 100001)}
}
