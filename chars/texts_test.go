package chars

import (
	"testing"
	"unicode/utf8"
)

type cases struct{ in, up, down, fold, title string }

func allCases(s string) cases {
	return cases{s, Upcase(s), Downcase(s), Fold(s), Titlecase(s)}
}

// P1.2: ordinary texts, and the edges that the chapter names.
func TestTexts(t *testing.T) {
	for _, c := range []cases{
		{"", "", "", "", ""},
		{"Hello, World 42", "HELLO, WORLD 42", "hello, world 42", "hello, world 42", "Hello, World 42"},
		{"straße", "STRASSE", "straße", "strasse", "Straße"},
		{"STRASSE", "STRASSE", "strasse", "strasse", "Strasse"},
		{"ß", "SS", "ß", "ss", "Ss"},
		{"ßa", "SSA", "ßa", "ssa", "Ssa"},
		{"ßß ß-ß", "SSSS SS-SS", "ßß ß-ß", "ssss ss-ss", "Ssß Ss-Ss"},
		{"ΣΑΣ Σ", "ΣΑΣ Σ", "σας σ", "σασ σ", "Σας Σ"},
		{"Σ", "Σ", "σ", "σ", "Σ"},
		{"ΣΣ", "ΣΣ", "σς", "σσ", "Σς"},
		{"ΣΣΣ", "ΣΣΣ", "σσς", "σσσ", "Σσς"},
		{"ΑΣ", "ΑΣ", "ας", "ασ", "Ας"},
		{"ΑΣΑ", "ΑΣΑ", "ασα", "ασα", "Ασα"},
		{"ΣΑ", "ΣΑ", "σα", "σα", "Σα"},
		{"ΑΣ1", "ΑΣ1", "ας1", "ασ1", "Ας1"},
		{"ΑΣ'Α", "ΑΣ'Α", "ας'α", "ασ'α", "Ας'Α"},
		{"Α'Σ", "Α'Σ", "α'σ", "α'σ", "Α'Σ"},
		{"Α\u0301Σ", "Α\u0301Σ", "α\u0301σ", "α\u0301σ", "Α\u0301Σ"},
		{"ßΣß ßΣ", "SSΣSS SSΣ", "ßσß ßς", "ssσss ssσ", "Ssσß Ssς"},
		{"aΣſ ªΣ", "AΣS ªΣ", "aσſ ªς", "aσs ªσ", "Aσſ ªς"},
		{"ς σ Σ", "Σ Σ Σ", "ς σ σ", "σ σ σ", "Σ Σ Σ"},
		{"ΣΑς", "ΣΑΣ", "σας", "σασ", "Σας"},
		{"ασα ας", "ΑΣΑ ΑΣ", "ασα ας", "ασα ασ", "Ασα Ας"},
		{"ςς", "ΣΣ", "ςς", "σσ", "Σς"},
		{"ſſ ſa", "SS SA", "ſſ ſa", "ss sa", "Sſ Sa"},
		{"ÿŸ Ÿÿ", "ŸŸ ŸŸ", "ÿÿ ÿÿ", "ÿÿ ÿÿ", "Ÿÿ Ÿÿ"},
		{"İIıi", "İIıI", "İiıi", "İiıi", "İiıi"},
		{"ıi ĸk ŉn µm ªa ºo", "ıI ĸK ŉN µM ªA ºO", "ıi ĸk ŉn µm ªa ºo", "ıi ĸk ŉn µm ªa ºo", "ıi ĸk ŉn µm ªa ºo"},
		{"÷×÷a", "÷×÷A", "÷×÷a", "÷×÷a", "÷×÷A"},
		{"ab-cD éf", "AB-CD ÉF", "ab-cd éf", "ab-cd éf", "Ab-Cd Éf"},
		{"aB1cD_eF", "AB1CD_EF", "ab1cd_ef", "ab1cd_ef", "Ab1Cd_Ef"},
		{"  ab\tCD\n", "  AB\tCD\n", "  ab\tcd\n", "  ab\tcd\n", "  Ab\tCd\n"},
		{"жЁлтый ЏА ѐ", "ЖЁЛТЫЙ ЏА Ѐ", "жёлтый џа ѐ", "жёлтый џа ѐ", "Жёлтый Џа Ѐ"},
		{"Łódź ŽIVOT ĳs", "ŁÓDŹ ŽIVOT ĲS", "łódź život ĳs", "łódź život ĳs", "Łódź Život Ĳs"},
		{"日本x ẞ ǅ", "日本X ẞ ǅ", "日本x ẞ ǅ", "日本x ẞ ǅ", "日本X ẞ ǅ"},
		{"\U0001F600a\U0001F600", "\U0001F600A\U0001F600", "\U0001F600a\U0001F600", "\U0001F600a\U0001F600", "\U0001F600A\U0001F600"},
	} {
		if got := allCases(c.in); got != c {
			t.Errorf("%q: %q, want %q", c.in, got, c)
		}
	}
}

// P1.2: each bad byte is answered as U+FFFD, which is no letter.
func TestBadBytes(t *testing.T) {
	for _, c := range []cases{
		{"\xff", "\ufffd", "\ufffd", "\ufffd", "\ufffd"},
		{"a\xff", "A\ufffd", "a\ufffd", "a\ufffd", "A\ufffd"},
		{"aB\x80Cd", "AB\ufffdCD", "ab\ufffdcd", "ab\ufffdcd", "Ab\ufffdCd"},
		{"\xed\xa0\x80", "\ufffd\ufffd\ufffd", "\ufffd\ufffd\ufffd", "\ufffd\ufffd\ufffd", "\ufffd\ufffd\ufffd"},
		{"\xc1\xa1", "\ufffd\ufffd", "\ufffd\ufffd", "\ufffd\ufffd", "\ufffd\ufffd"},
		{"\xf4\x90\x80\x80", "\ufffd\ufffd\ufffd\ufffd", "\ufffd\ufffd\ufffd\ufffd", "\ufffd\ufffd\ufffd\ufffd", "\ufffd\ufffd\ufffd\ufffd"},
		{"\ufffdA", "\ufffdA", "\ufffda", "\ufffda", "\ufffdA"},
		{"a\xce", "A\ufffd", "a\ufffd", "a\ufffd", "A\ufffd"},
		{"aΣ\xce", "AΣ\ufffd", "aς\ufffd", "aσ\ufffd", "Aς\ufffd"},
		{"\xceΣ", "\ufffdΣ", "\ufffdσ", "\ufffdσ", "\ufffdΣ"},
		{"\xa3\xce\xa3\xce", "\ufffdΣ\ufffd", "\ufffdσ\ufffd", "\ufffdσ\ufffd", "\ufffdΣ\ufffd"},
		{"a\xffΣ", "A\ufffdΣ", "a\ufffdσ", "a\ufffdσ", "A\ufffdΣ"},
	} {
		if got := allCases(c.in); got != c {
			t.Errorf("%q: %q, want %q", c.in, got, c)
		}
	}
}

// plainCases says P1.2 over again, with the whole text laid out in a list.
func plainCases(s string) cases {
	text := []rune(s)
	letters := letterTable()
	letterAt := func(i int) bool { return i >= 0 && i < len(text) && letters[text[i]] }
	var up, down, fold, title []rune
	for i, r := range text {
		small := Down(r)
		if r == 'Σ' && letterAt(i-1) && !letterAt(i+1) {
			small = 'ς'
		}
		down = append(down, small)
		first := letterAt(i) && !letterAt(i-1)
		switch {
		case r == 'ß':
			up = append(up, 'S', 'S')
			fold = append(fold, 's', 's')
		default:
			up = append(up, Up(r))
			fold = append(fold, Down(Up(r)))
		}
		switch {
		case first && r == 'ß':
			title = append(title, 'S', 's')
		case first:
			title = append(title, Up(r))
		case letterAt(i):
			title = append(title, small)
		default:
			title = append(title, r)
		}
	}
	return cases{s, string(up), string(down), string(fold), string(title)}
}

// P1.2: every text of up to four pieces, bad bytes and pieces of characters among them.
func TestEveryShortText(t *testing.T) {
	pieces := []string{"Σ", "ς", "a", "B", "ß", " ", "\xff", "\xce", "\xa3"}
	var walk func(s string, left int)
	walk = func(s string, left int) {
		if got, want := allCases(s), plainCases(s); got != want {
			t.Errorf("%q: %q, want %q", s, got, want)
		}
		if left == 0 || t.Failed() {
			return
		}
		for _, p := range pieces {
			walk(s+p, left-1)
		}
	}
	walk("", 4)
}

// P1.2: a text of one character, for every character.
func TestEveryCharacterAsText(t *testing.T) {
	for r := rune(0); r <= utf8.MaxRune; r++ {
		s := string(r)
		if got := Downcase(s); got != string(Down([]rune(s)[0])) {
			t.Errorf("Downcase(%q) = %q", s, got)
		}
		if r == 'ß' {
			continue
		}
		if got := Upcase(s); got != string(Up([]rune(s)[0])) {
			t.Errorf("Upcase(%q) = %q", s, got)
		}
		if got := Fold(s); got != string(Down(Up([]rune(s)[0]))) {
			t.Errorf("Fold(%q) = %q", s, got)
		}
		if got := Titlecase(s); got != Upcase(s) {
			t.Errorf("Titlecase(%q) = %q", s, got)
		}
	}
}

func FuzzTexts(f *testing.F) {
	f.Add("ΣΑΣ Σ straße \xce\xff")
	f.Fuzz(func(t *testing.T, s string) {
		if got, want := allCases(s), plainCases(s); got != want {
			t.Errorf("%q: %q, want %q", s, got, want)
		}
	})
}
