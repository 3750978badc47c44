package write

import (
	"math/rand/v2"
	"regexp"
	"strings"
	"testing"
	"unicode/utf8"

	"sextant/api"
	"sextant/datum"
	"sextant/exact"
)

// What of a text is not written as it is, by patterns.
var (
	inStrings   = regexp.MustCompile(`["\\\x00-\x1f\x{7f}-\x{9f}\x{2028}\x{feff}]`)
	plainSymbol = regexp.MustCompile(`^(?:[+-]|\.\.\.)$`)
	beginning   = regexp.MustCompile(`^(?:->|[^A-Za-z!$%&*/:<=>?^_~\x{80}-\x{10ffff}]|[\x{85}\x{a0}\x{2028}\x{2029}])`)
	behind      = regexp.MustCompile(`[^A-Za-z!$%&*/:<=>?^_~\x{80}-\x{10ffff}0-9+\-.@]|[\x{85}\x{a0}\x{2028}\x{2029}]`)
	byNumber    = regexp.MustCompile(`^[\x00-\x1f\x{7f}-\x{a0}\x{2028}\x{2029}]$`)
)

func escaped(s string) string {
	c, _ := utf8.DecodeRuneInString(s)
	return `\x` + hex(c) + `;`
}

// modelText is the text of a sound datum, written in another way than the program does: from the leaves up, and by patterns.
func modelText(d api.Datum, plain bool) string {
	switch d.Kind {
	case api.Nil, api.Pair:
		return modelList(d, plain)
	case api.Vector:
		return "#" + modelItems(d.List, plain)
	case api.Bytes:
		var items []api.Datum
		for _, b := range d.Raw {
			items = append(items, whole(int(b)))
		}
		return "#vu8" + modelItems(items, plain)
	case api.Bool:
		return [...]string{"#f", "#t"}[d.N]
	case api.Number:
		text, _ := exact.Text(d.Num, 10)
		return text
	case api.Void:
		return "#<void>"
	case api.Other:
		return "#<" + d.Text + ">"
	case api.Char:
		if plain {
			return string(rune(d.N))
		}
		return `#\` + modelCharacter(string(rune(d.N)))
	}
	if plain {
		return d.Text
	}
	if d.Kind == api.Symbol {
		return modelSymbol(d.Text)
	}
	return `"` + inStrings.ReplaceAllStringFunc(d.Text, func(s string) string {
		if i := strings.Index("\a\b\t\n\v\f\r\"\\", s); i >= 0 {
			return `\` + `abtnvfr"\`[i:i+1]
		}
		return escaped(s)
	}) + `"`
}

func modelItems(items []api.Datum, plain bool) string {
	var texts []string
	for _, item := range items {
		texts = append(texts, modelText(item, plain))
	}
	return "(" + strings.Join(texts, " ") + ")"
}

func modelList(d api.Datum, plain bool) string {
	var items []api.Datum
	for ; d.Kind == api.Pair; d = d.List[1] {
		items = append(items, d.List[0])
	}
	if d.Kind != api.Nil {
		return strings.TrimSuffix(modelItems(items, plain), ")") + " . " + modelText(d, plain) + ")"
	}
	if len(items) == 2 && same(items[0], sym("quote")) {
		return "'" + modelText(items[1], plain)
	}
	return modelItems(items, plain)
}

func modelCharacter(c string) string {
	if name, ok := charNames()[[]rune(c)[0]]; ok {
		return name
	}
	if byNumber.MatchString(c) {
		return strings.Trim(escaped(c), `\;`)
	}
	return c
}

func modelSymbol(name string) string {
	if name == "" {
		return "||"
	}
	if plainSymbol.MatchString(name) {
		return name
	}
	head := beginning.FindString(name)
	tail := behind.ReplaceAllStringFunc(name[len(head):], escaped)
	if head != "" && head != "->" {
		head = escaped(head)
	}
	return head + tail
}

// readable: does the datum have nothing that can't be read again?
func readable(d api.Datum) bool {
	for _, item := range d.List {
		if !readable(item) {
			return false
		}
	}
	return d.Kind != api.Void && d.Kind != api.Other && (d.Kind != api.Symbol || d.Text != "")
}

// heldToModel: both calls answer as the model does, and what can be read again is.
func heldToModel(t *testing.T, d api.Datum) {
	t.Helper()
	writes(t, d, modelText(d, false))
	displays(t, d, modelText(d, true))
	if readable(d) && len(modelText(d, false)) <= longestText {
		readAgain(t, d)
	}
}

// randomText has characters of each kind that a chapter treats apart.
func randomText(random *rand.Rand) string {
	some := []string{"a", "x", "Z", "quote", "é", "λ", "\U0001f600", "\ufffd", "\ufeff", "0", "1", "9", "+", "-", ".", "...", "@", "->", ">", "!", "$", "~", "_", "(", ")", "[", "]", "\"", ";", "'", "`", ",", "#", "|", "{", "}", "\\", "\\x41;", " ", "\t", "\n", "\r", "\v", "\f", "\a", "\b", "\x00", "\x1b", "\x1f", "\x7f", "\u0080", "\u0085", "\u009f", "\u00a0", "\u00a1", "\u2027", "\u2028", "\u2029", "\u202a", "\ud7ff", "\ue000", "\U0010ffff"}
	text := ""
	for range random.IntN(5) {
		text += some[random.IntN(len(some))]
	}
	return text
}

func randomAtom(random *rand.Rand) api.Datum {
	switch random.IntN(9) {
	case 0:
		return []api.Datum{empty(), boolean(0), boolean(1), vector(), void(), other(randomText(random))}[random.IntN(6)]
	case 1:
		return []api.Datum{whole(random.IntN(2000) - 1000), complexNumber(1, 3, 0, 1), complexNumber(-1, 2, 5, 7), complexNumber(0, 1, -1, 1), complexNumber(-3, 1, 1, 1)}[random.IntN(5)]
	case 2, 3:
		c, width := utf8.DecodeRuneInString(randomText(random))
		return char(c * rune(min(width, 1))) // the character 0, if there is none
	case 4, 5:
		return str(randomText(random))
	case 6:
		return raw([]byte(randomText(random))...)
	}
	return sym(randomText(random))
}

// randomDatum is one of at most so many levels.
func randomDatum(random *rand.Rand, levels int) api.Datum {
	if levels == 0 || random.IntN(4) == 0 {
		return randomAtom(random)
	}
	var items []api.Datum
	for range 1 + random.IntN(4) {
		items = append(items, randomDatum(random, levels-1))
	}
	switch random.IntN(6) {
	case 0:
		return vector(items...)
	case 1:
		return dotted(randomDatum(random, levels-1), items...)
	case 2:
		return quote(items[0])
	case 3:
		return list(append([]api.Datum{sym("quote")}, items...)...)
	}
	return list(items...)
}

// P9.1: data at random, whatever they are made of.
func TestRandomData(t *testing.T) {
	random := rand.New(rand.NewPCG(9, 1))
	for levels := range 5 {
		for range 4000 {
			heldToModel(t, randomDatum(random, levels))
			if t.Failed() {
				return
			}
		}
	}
}

// P9.1: symbols and strings of three characters, of all that the chapters treat apart.
func TestShortTexts(t *testing.T) {
	const some = "a1+-.>@ (#\\\n\x7f\u0085é\u2028"
	for _, a := range some {
		for _, b := range some {
			for _, c := range some {
				text := string([]rune{a, b, c})
				heldToModel(t, list(sym(text), str(text), sym(string([]rune{a, b}))))
			}
		}
	}
}

func FuzzData(f *testing.F) {
	for _, s := range []string{"(a . (b))", "'a", "(quote a b)", "#(1 #\\a \"b\\n\" #vu8(1 2))", "->\\x20;", "a b", "...", "-1/2+i", "", "\xff", "#\\x2028"} {
		f.Add(s)
	}
	f.Fuzz(func(t *testing.T, s string) {
		if data, _, e := datum.All(s); e == api.OK {
			for _, d := range data {
				heldToModel(t, d)
			}
		}
		for _, d := range []api.Datum{str(s), sym(s), other(s), list(sym(s), vector(str(s)))} {
			if utf8.ValidString(s) {
				heldToModel(t, d)
			} else {
				refused(t, "a bad byte", d)
			}
		}
		heldToModel(t, raw([]byte(s)...))
	})
}
