package cond

import (
	"slices"
	"strings"
	"testing"

	"sextant/api"
)

// The chapter's example.
func TestExample(t *testing.T) {
	c, e := Error(sym("car"), one("\"bad argument\""), read("5"), true)
	if e != api.OK {
		t.Fatalf("Error: error %d", e)
	}
	tells(t, c, "assertion in car: bad argument 5")
	that, e := Error(no(), one("\"no\""), nil, false)
	if e != api.OK {
		t.Fatalf("Error: error %d", e)
	}
	tells(t, that, "error: no")
	finds(t, that, 3, part(4))
	if is, e := Under(18, 4); !is || e != api.OK {
		t.Errorf("Under(18, 4): %v, error %d", is, e)
	}
}

// P16.4: the name of the first part under 3, or condition, if there is none.
func TestTellNames(t *testing.T) {
	tells(t, nil, "condition")
	tells(t, []api.Simple{}, "condition")
	for number, one := range tree() {
		if slices.Contains(one.under, 3) {
			tells(t, []api.Simple{ofType(number)}, one.name)
			tells(t, append(condition("0", "2", "2"), ofType(number), ofType(4), ofType(6)), one.name)
		}
	}
	tells(t, condition("0"), "condition")
	tells(t, condition("2", "0", "2"), "condition")
	tells(t, condition("3", "4", "6"), "serious")
	tells(t, condition("6", "4", "3"), "assertion")
	tells(t, condition("2", "13", "9"), "undefined")
	tells(t, condition("12 f x", "4"), "syntax")
	tells(t, condition("18 \"file\"", "17 \"other\""), "i/o-file-does-not-exist")
}

// P16.4: with and without who, message and irritants, wherever they stand.
func TestTellParts(t *testing.T) {
	texts := [2][2][2]string{
		{{"warn", "warn 1 2"}, {"warn: no", "warn: no 1 2"}},
		{{"warn in car", "warn in car 1 2"}, {"warn in car: no", "warn in car: no 1 2"}},
	}
	for who := range 2 {
		for message := range 2 {
			for irritants := range 2 {
				rest := strings.TrimPrefix(texts[who][message][irritants], "warn")
				parts := slices.Concat(condition("8 car")[:who], condition("1 \"no\"")[:message], condition("7 (1 2)")[:irritants])
				tells(t, parts, "condition"+rest)
				tells(t, append(parts, part(2)), "condition"+rest)
				tells(t, append(parts, part(4)), "error"+rest)
				slices.Reverse(parts)
				tells(t, append(condition("0", "13"), parts...), "undefined"+rest)
			}
		}
	}
	tells(t, condition("7 (1 2)", "1 \"no\"", "2", "8 car", "11", "4"), "lexical in car: no 1 2")
}

// P16.4: who and message are told whatever they are, the Bool false included.
func TestTellFalse(t *testing.T) {
	tells(t, condition("8 #f", "1 #f", "7 (#f)"), "condition in #f: #f #f")
	tells(t, condition("8 \"\"", "1 \"\"", "7 (\"\")"), "condition in :  \"\"")
	tells(t, condition("8 ()", "1 ()", "7 (())"), "condition in (): () ()")
}

// P16.4: of irritants that are a list, the empty one, and none.
func TestTellIrritants(t *testing.T) {
	for field, want := range map[string]string{
		"()": "", "(1)": " 1", "(1 2 3)": " 1 2 3", "((1 2) () #(3))": " (1 2) () #(3)", "(() ())": " () ()", "(1 . (2))": " 1 2",
		"('a (quote b) c)": " 'a 'b c", "'a": " quote a", "((1 . 2) (3 . (4)))": " (1 . 2) (3 4)",
		"5": "", "a": "", "\"ab\"": "", "#(1 2)": "", "#vu8(1 2)": "", "(1 . 2)": "", "(1 2 . 3)": "", "(1 . #(2))": "", "#f": "", "#t": "", "#\\a": "",
	} {
		tells(t, condition("4", "7 "+field), "error"+want)
		tells(t, condition("7 "+field, "1 m"), "condition: m"+want)
	}
	tells(t, []api.Simple{part(7, api.Datum{Kind: api.Void})}, "condition")
	tells(t, []api.Simple{part(7, list(api.Datum{Kind: api.Void}, api.Datum{Kind: api.Other, Text: "procedure"}))}, "condition #<void> #<procedure>")
}

// P16.4: texts, characters and symbols are shown for who and message, and written for irritants.
func TestTellTwoWays(t *testing.T) {
	for field, ways := range map[string][2]string{
		"\"a\\\"b\\n\"":               {"a\"b\n", "\"a\\\"b\\n\""},
		"\"é\\\\\"":                   {"é\\", "\"é\\\\\""},
		"#\\a":                        {"a", "#\\a"},
		"#\\space":                    {" ", "#\\space"},
		"#\\x0":                       {"\x00", "#\\nul"},
		"a\\x20;b":                    {"a b", "a\\x20;b"},
		"\\x31;":                      {"1", "\\x31;"},
		"(\"a\" #\\b c\\x28; . \"\")": {"(a b c( . )", "(\"a\" #\\b c\\x28; . \"\")"},
		"#(\"a\" 'b)":                 {"#(a 'b)", "#(\"a\" 'b)"},
		"#vu8(1 255)":                 {"#vu8(1 255)", "#vu8(1 255)"},
		"1/2-3i":                      {"1/2-3i", "1/2-3i"},
	} {
		tells(t, condition("8 "+field), "condition in "+ways[0])
		tells(t, condition("1 "+field), "condition: "+ways[0])
		tells(t, condition("7 ("+field+")"), "condition "+ways[1])
		tells(t, condition("7 ("+field+" "+field+")", "1 "+field, "8 "+field, "6"), "assertion in "+ways[0]+": "+ways[0]+" "+ways[1]+" "+ways[1])
	}
}

// P16.4: of several parts of one type the first is told.
func TestTellFirst(t *testing.T) {
	tells(t, condition("8 car", "8 cdr", "1 \"no\"", "7 (1)", "1 \"yes\"", "7 (2 3)", "8 f"), "condition in car: no 1")
	tells(t, condition("7 ()", "7 (1)", "4"), "error")
	tells(t, condition("7 (1)", "7 5"), "condition 1")
	tells(t, condition("7 5", "7 (1)"), "condition")
	tells(t, slices.Repeat(condition("8 car", "1 \"no\"", "7 (1)", "4"), mostParts/4), "error in car: no 1")
}

// P16.4: fields of other types are not told.
func TestTellOtherFields(t *testing.T) {
	tells(t, condition("12 (f x) x", "17 \"a\"", "18 \"b\"", "19 \"c\""), "syntax")
	tells(t, condition("19 (1 2)", "12 \"a\" \"b\"", "8 car"), "i/o-file-already-exists in car")
}

// P16.4: there is no limit to the text.
func TestTellLong(t *testing.T) {
	long := strings.Repeat("é", 100000)
	many := list(slices.Repeat(read("a"), 9999)...)
	text := api.Datum{Kind: api.String, Text: long}
	tells(t, []api.Simple{part(8, text), part(1, text), part(7, many)}, "condition in "+long+": "+long+strings.Repeat(" a", 9999))
	tells(t, []api.Simple{part(7, list(nested(deepest-1)))}, "condition "+strings.Repeat("#(", deepest-2)+"a"+strings.Repeat(")", deepest-2))
}
