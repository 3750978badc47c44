package datum

import (
	"strings"
	"testing"

	"sextant/api"
)

// gaps has blanks and remarks of each kind, none with a fault, that can stand between any two tokens.
func gaps() []string {
	out := []string{"\r\n", "  \n\t ", "\u2028\u2029\u0085\u00a0", ";\n", ";x\r", ";;; x ; y\u0085", ";( \" #| #; \\ '\u2028", " ;x\n;y\n ", "\n;x\v\f\u2029\u00a0\n",
		" #||#", " #|x|#", " #|x#|y|#z|#", " #|;|# ", " #|\n\"(|# ", " #| |||| ### #\\ |#", " #|#||#|#", " #|é\u2028|#", " #|##|x|#|#",
		" #;a ", " #;(a b)", " #; a ", "\n#;\"x\"", " #;#;a b ", " #;'a ", " #;#(a)", " #;;x\na ", " #;#|x|#a ", " #;#\\( ", " #;1 ", " #;[a . b]", " #;#vu8(1)", " #;(a #;b c ;d)\n e)", " #;a #;b #|c|# ;d\n"}
	for _, c := range blanks {
		out = append(out, string(c), string(c)+string(c))
	}
	return out
}

// P8.2: blanks and remarks may stand between tokens, and ahead of and behind all of them.
func TestGaps(t *testing.T) {
	a, b, quote := sym("a"), sym("b"), sym("quote")
	for _, gap := range gaps() {
		reads(t, gap+"a", a, len(gap)+1)
		reads(t, gap+"a"+gap, a, len(gap)+1)
		reads(t, gap+gap+"(a)", list(a), 2*len(gap)+3)
		readsWhole(t, strings.ReplaceAll("(_a_b_)", "_", gap), list(a, b))
		readsWhole(t, strings.ReplaceAll("[_a_._b_]", "_", gap+"\n"), pair(a, b))
		readsWhole(t, strings.ReplaceAll("_'_a", "_", gap), list(quote, a))
		readsWhole(t, strings.ReplaceAll("_#(_a_\"\"_)", "_", gap), vector(a, str("")))
		readsWhole(t, strings.ReplaceAll("#vu8(_1_2_)", "_", gap), raw(1, 2))
		readsWhole(t, strings.ReplaceAll("#;_b_a", "_", gap), a)
		allAre(t, strings.ReplaceAll("_a_(_)_b_", "_", gap), a, empty(), b)
		refused(t, gap, api.ErrEnd)
		refused(t, gap+gap, api.ErrEnd)
		faulty(t, gap+")", "("+gap, "'"+gap, "#;"+gap, "#|"+gap, gap+"#", "# "+gap+"(a)")
	}
}

// P8.2: texts of blanks and remarks alone, and of nothing.
func TestEnd(t *testing.T) {
	for _, s := range []string{"", " ", "\n", blanks, ";", "; a", ";\n", "; a\n", ";;", "#||#", "#| a |#", "#|#||#|#", "#;a", "#; a", "#;()", "#;#;a b", "#;'a", " \n#| |# #;x", "#;a;b", ";#|", "; (", "; \"", "#|(|#", "#;" + largeNumber(),
		"#;" + strings.Repeat("(", 300) + strings.Repeat(")", 300), "#;#(" + strings.Repeat("a ", 30000) + ")", strings.Repeat(" ", longestText), ";" + strings.Repeat("a", longestText-1), strings.Repeat("\u2028", longestText/3), "#;" + strings.Repeat("a", longestText-2)} {
		refused(t, s, api.ErrEnd)
	}
}

// P8.2: a remark of ; goes to the end of its line: to one of four characters, or the text's.
func TestLineRemarks(t *testing.T) {
	a := sym("a")
	for _, c := range blanks {
		text := ";x" + string(c) + "a"
		if strings.ContainsRune("\n\r\u0085\u2028", c) {
			readsWhole(t, text, a)
			readsWhole(t, "("+text+")", list(a))
		} else {
			refused(t, text, api.ErrEnd)
			faulty(t, "("+text+")")
		}
	}
	reads(t, "a;b", a, 1)
	reads(t, "\"a\";b", str("a"), 3)
	readsWhole(t, ";\r\na", a)
	readsWhole(t, "; #| \n a", sym("a"))
	readsWhole(t, ";\\\na", a)
}

// P8.2: remarks of #| and |# stand in one another; each needs its end.
func TestNestedRemarks(t *testing.T) {
	a := sym("a")
	for _, text := range []string{"#||#a", "#|x|#a", "#|#|x|#|#a", "#|#||##||#|#a", "#| #| #| x |# |# |#a", "#|||#a", "#||||#a", "#|a|b#c|#a", "#|;|#a", "#|\"|#a", "#|#\\|#a", "#|#;|#a", "#| | # |#a", "#|||||#a"} {
		readsWhole(t, text, a)
	}
	faulty(t, "#|", "#| ", "#|a", "#||", "#|#", "#|#|", "#|#||#", "#|#|#", "#| #| |#", "#| a | #", "#|a|", "#|\n;|", "(#|)", "(a #| b)", "'#|a", "#;#|a", "#|x", "|#", "|#a", "a|#", "#||#|#", "#|x|#|#", strings.Repeat("#|", longestText/2), strings.Repeat("#|", 1000)+strings.Repeat("|#", 999))
	readsWhole(t, strings.Repeat("#|", 1000)+strings.Repeat("|#", 1000)+"a", a)
	reads(t, "a #|", a, 1)
	reads(t, "(a)#|", list(a), 3)
}

// P8.2: #; takes the datum behind it away, of which only the form is looked at.
func TestDatumRemarks(t *testing.T) {
	a, b := sym("a"), sym("b")
	for text, want := range map[string]api.Datum{
		"#;b a": a, "#; b a": a, "#;(b)a": a, "#;\"b\"a": a, "#;'b a": a, "#;#t a": a, "#;#\\) a": a, "#;#(b)a": a, "#;#vu8(1)a": a, "#;[b . c]a": a, "#;#;b c a": a, "#;b #;c a": a, "#;#;#;1 2 3 a": a, "#;(#;b)a": a, "#;(b #;c . #;d e #;f)a": a, "#;;b\nc a": a, "#;#|b|#c a": a, "(a #;b)": list(a), "(#;b a)": list(a), "(#;b #;c)": empty(), "(a #;#;b c)": list(a), "(a #;b . (b))": list(a, b), "'#;b a": list(sym("quote"), a), "#(a #;(b) b)": vector(a, b), "#;- a": a, "#;... a": a,
		"#;" + largeNumber() + " a": a, "(a #;" + largeNumber() + ")": list(a), "#;(b . " + largeNumber() + ")a": a, "(#;'" + largeNumber() + " a . b)": pair(a, b), "#;#;" + largeNumber() + " " + largeNumber() + " a": a,
		"#;" + strings.Repeat("(", 1000) + strings.Repeat(")", 1000) + "a": a, "#;" + strings.Repeat("'", 1000) + "b a": a, "#;#(" + strings.Repeat("b ", 30000) + ")a": a, "(a #;(" + strings.Repeat("b ", 30000) + ") b)": list(a, b),
	} {
		readsWhole(t, text, want)
	}
	refused(t, "#;b", api.ErrEnd)
	refused(t, "(#;"+largeNumber()+" "+largeNumber()+")", api.ErrLarge)
	refused(t, "("+largeNumber()+" #;"+largeNumber()+")", api.ErrLarge)
	refused(t, "("+largeNumber()+" #;a)", api.ErrLarge)
	refused(t, "#;a "+largeNumber(), api.ErrLarge)
	faulty(t, "#;", "#; ", "#;#;a", "#;#;", "#;;a", "#;#|a|#", "(#;)", "(a #;)", "(a #; )", "'#;", "'#;a", "#(#;)", "#;) a", "#;(a] b", "#;( a", "#;\"a", "#;. a", "(a #;. b)", "#;1a b", "#;-a b", "#;#\\ab c", "#;#vu8(256) a", "#;#vu8(a) b", "#;(. a) b", "#;(a . b c) d", "#;' ", "#;\"\\q\" a", "#;a\\x110000; b", "#;1/0 a", "#;|a| b", "#;\xff a", "#;\xff", "#;\"\xff\"", "#;(a \xff)", "#;#\\\xff",
		"#;("+largeNumber()+" a", "#;("+largeNumber()+"] a", "#;"+strings.Repeat("(", 1000)+" a")
}

// P8.2: a bad byte ahead of the end of the datum is a fault of the text wherever it stands; behind the datum it is not looked at.
func TestBadBytes(t *testing.T) {
	a := sym("a")
	for _, bad := range []string{"\xff", "\x80", "\xc3", "\xc0\x80", "\xe2\x80", "\xed\xa0\x80", "\xf4\x90\x80\x80", "\xf0\x9f\x98"} {
		for _, text := range []string{"_", "_a", "a_", "a_b", " _", "_ a", "\n_\na", ";_\na", "; x_\u2028 a", "#|_|#a", "#|#|_|#|#a", "#;_ a", "#;\"_\"a", "#;(;_\n)a", "(_)", "(a _)", "(a;_\n)", "(a #|_|#)", "'_", "'_a", "' ;_\na", "\"_\"", "\"a_b\"", "\"_", "#(_)", "#vu8(_)", "#vu8(1 _)", "#\\_", "#\\a_", "#\\x4_", "#t_", "1_", "+_", "-_", "->_", "..._", "a\\_", "a\\x4_;", "a\\x41;_", "(a . _)", "(a _ b)", "(a ._ b)", "#_", "#vu8_(1)", "(a;_"} {
			faulty(t, strings.ReplaceAll(text, "_", bad))
		}
		for _, text := range []string{"a _", "a;_", "a(_", "a)_", "a\"_", "a _b", "a\u2028_", "a #|_|#", "#\\space;_", "1 _", "#t)_"} {
			end := strings.IndexAny(text, delimiters)
			want, _, _ := Read(text[:end])
			reads(t, strings.ReplaceAll(text, "_", bad), want, end)
		}
		reads(t, "(a)"+bad, list(a), 3)
		reads(t, "\"a\""+bad, str("a"), 3)
		reads(t, "#()"+bad, vector(), 3)
		reads(t, "'\"\""+bad, list(sym("quote"), str("")), 3)
	}
	readsWhole(t, ";\ufffd\n\ufffd", sym("\ufffd"))
	readsWhole(t, "#|\ufffd|#(\"\ufffd\" #\\\ufffd)", list(str("\ufffd"), char(0xFFFD)))
}
