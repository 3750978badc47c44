package equal

import (
	"slices"
	"strings"
	"testing"

	"sextant/api"
)

// The chapter's examples.
func TestExamples(t *testing.T) {
	for _, of := range []struct {
		a, b api.Datum
		want int
	}{
		{ratio(1, 2), ratio(1, 3), 1},
		{boolean(0), boolean(1), -1},
		{str("ab"), str("b"), -1},
		{vector(whole(2)), vector(whole(1), whole(1)), -1},
	} {
		compares(t, of.a, of.b, of.want)
	}
	for _, d := range someData()[1:] {
		compares(t, empty(), d, -1)
	}
}

// someData rise, and have one or more sound data of each kind; the first is the empty list.
func someData() []api.Datum {
	return []api.Datum{
		empty(),
		boolean(0), boolean(1),
		whole(-7), complexNumber(0, -1), whole(0), complexNumber(0, 1), ratio(1, 3), whole(1),
		char(0), char('a'), char(0xD7FF), char(0xE000), char(0xFFFD), char(0x10FFFF),
		str(""), str("a"), str("a\x00é\ufffd\U0001f600"), str("b"),
		sym(""), sym("a"), sym("a b"), sym("b"),
		raw(), raw(0), raw(0, 255), raw(1),
		pair(empty(), empty()), pair(boolean(0), empty()), list(whole(1), sym("a")), pair(str("a"), whole(1)), pair(str("b"), empty()),
		vector(), vector(empty()), vector(vector()), vector(empty(), vector(pair(sym("a"), raw(1)))),
		void(),
		other(""), other("a"), other("procedure"),
	}
}

// P10.1, P10.2, P10.3: each kind against each other one, and against itself.
func TestKinds(t *testing.T) {
	riseAnywhere(t, someData()...)
	kinds := map[int]int{}
	for _, d := range someData() {
		kinds[d.Kind]++
	}
	if len(kinds) != 11 {
		t.Errorf("the test has data of %d kinds", len(kinds))
	}
}

// P10.2: the lesser kind first, whatever the data have inside: each kind at its greatest against the next at its least.
func TestKindsAheadOfAllElse(t *testing.T) {
	huge := number(rational("99999999999999999999"), rational("7"))
	tiny := number(rational("-99999999999999999999"), rational("-7"))
	high := "\U0010ffff\U0010ffff"
	rise(t,
		empty(),
		boolean(0), boolean(1),
		tiny, huge,
		char(0), char(0x10FFFF),
		str(""), str(high),
		sym(""), sym(high),
		raw(), raw(255, 255),
		pair(empty(), empty()), pair(other(high), other(high)),
		vector(), vector(other(high), other(high), other(high)),
		void(),
		other(""), other(high),
	)
}

// P10.1: what looks alike but is of another kind is not the same.
func TestLooksAlike(t *testing.T) {
	for _, data := range [][]api.Datum{
		{boolean(0), whole(0), char(0)},
		{boolean(1), whole(1), char(1)},
		{empty(), str(""), sym(""), raw(), vector(), void(), other("")},
		{str("a"), sym("a"), raw('a'), other("a")},
		{str("void"), sym("void"), void(), other("void")},
		{raw(1, 2), list(whole(1), whole(2)), vector(whole(1), whole(2))},
		{pair(whole(1), whole(2)), vector(whole(1), whole(2))},
		{pair(empty(), empty()), vector(empty(), empty())},
	} {
		rise(t, data...)
	}
}

// P10.2: both Booleans.
func TestBooleans(t *testing.T) {
	riseAnywhere(t, boolean(0), boolean(1))
}

// P10.2: characters of one, two, three and four bytes, and those on both sides of what is none.
func TestCharacters(t *testing.T) {
	var data []api.Datum
	for _, c := range []rune{0, 1, 9, ' ', '0', 'A', 'Z', 'a', 'z', 0x7F, 0x80, 0xFF, 0x100, 0x7FF, 0x800, 0x2028, 0xD7FF, 0xE000, 0xFEFF, 0xFFFD, 0xFFFF, 0x10000, 0x1F600, 0xFFFFF, 0x100000, 0x10FFFF} {
		data = append(data, char(c))
	}
	riseAnywhere(t, data...)
}

// P10.2: Nil and Void are each the same as themselves alone.
func TestNilAndVoid(t *testing.T) {
	compares(t, empty(), empty(), 0)
	compares(t, void(), void(), 0)
	riseAnywhere(t, empty(), void())
	isItself(t, vector(repeated(void(), 100)...))
	isItself(t, list(repeated(empty(), 100)...))
}

// someTexts are all texts of at most two characters, each of as many bytes as a character may have, by rising numbers.
func someTexts() []string {
	letters := []rune{0, 'a', 'b', 0x7F, 0x80, 0x7FF, 0x800, 0xD7FF, 0xE000, 0xFFFD, 0xFFFF, 0x10000, 0x10FFFF}
	runes := [][]rune{nil}
	for _, a := range letters {
		runes = append(runes, []rune{a})
		for _, b := range letters {
			runes = append(runes, []rune{a, b})
		}
	}
	slices.SortFunc(runes, slices.Compare[[]rune])
	var out []string
	for _, text := range runes {
		out = append(out, string(text))
	}
	return out
}

// P10.2: strings, symbols and Others by their characters' numbers; a beginning comes first.
func TestTexts(t *testing.T) {
	for _, of := range []func(text string) api.Datum{str, sym, other} {
		var data []api.Datum
		for _, text := range someTexts() {
			data = append(data, of(text))
		}
		rise(t, data...)
		rise(t, inside(data, func(d api.Datum) api.Datum { return pair(d, whole(1)) })...)
		riseAnywhere(t, of(""), of("A"), of("Ab"), of("B"), of("a"), of("ab"), of("abc"), of("abd"), of("ac"), of("b"), of("é"), of("éa"), of("λ"), of("\uffff"), of("\U00010000"))
		long := strings.Repeat("aé\U0001f600", 30000)
		rise(t, of("aé\U0001f600"), of(long), of(long+"a"), of(long+"aa"), of(long+"b"), of(long+"é"), of("b"))
	}
}

// P10.2: bytevectors by their bytes; a beginning comes first.
func TestBytevectors(t *testing.T) {
	some := []byte{0, 1, 127, 128, 255}
	lists := [][]byte{nil}
	for _, a := range some {
		lists = append(lists, []byte{a})
		for _, b := range some {
			lists = append(lists, []byte{a, b})
			for _, c := range some {
				lists = append(lists, []byte{a, b, c})
			}
		}
	}
	// A byte that is there goes ahead of a greater one and behind none at all.
	slices.SortFunc(lists, slices.Compare[[]byte])
	var data []api.Datum
	for _, b := range lists {
		data = append(data, raw(b...))
	}
	rise(t, data...)
	riseAnywhere(t, raw(), raw(0), raw(0, 0), raw(0, 255), raw(1), raw(1, 0), raw(200), raw(255))
	long := make([]byte, 100000)
	rise(t, raw(long[:99999]...), raw(long...), raw(append(long[:99999:99999], 1)...), raw(1))
}
