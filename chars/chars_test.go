package chars

import (
	"math"
	"strings"
	"testing"
)

// The letters are written out one by one, so that a range of chars.go that begins or ends at a wrong place is seen.
const (
	smalls = "abcdefghijklmnopqrstuvwxyz" +
		"àáâãäåæçèéêëìíîïðñòóôõöøùúûüýþ" +
		"āăąćĉċčďđēĕėęěĝğġģĥħĩīĭįĳĵķ" +
		"ĺļľŀłńņň" +
		"ŋōŏőœŕŗřśŝşšţťŧũūŭůűųŵŷ" +
		"źżž" +
		"αβγδεζηθικλμνξοπρστυφχψω" +
		"абвгдежзийклмнопрстуфхцчшщъыьэюя" +
		"ѐёђѓєѕіїјљњћќѝўџ"
	capitals = "ABCDEFGHIJKLMNOPQRSTUVWXYZ" +
		"ÀÁÂÃÄÅÆÇÈÉÊËÌÍÎÏÐÑÒÓÔÕÖØÙÚÛÜÝÞ" +
		"ĀĂĄĆĈĊČĎĐĒĔĖĘĚĜĞĠĢĤĦĨĪĬĮĲĴĶ" +
		"ĹĻĽĿŁŃŅŇ" +
		"ŊŌŎŐŒŔŖŘŚŜŞŠŢŤŦŨŪŬŮŰŲŴŶ" +
		"ŹŻŽ" +
		"ΑΒΓΔΕΖΗΘΙΚΛΜΝΞΟΠΡΣΤΥΦΧΨΩ" +
		"АБВГДЕЖЗИЙКЛМНОПРСТУФХЦЧШЩЪЫЬЭЮЯ" +
		"ЀЁЂЃЄЅІЇЈЉЊЋЌЍЎЏ"
)

func lonely() []rune {
	return []rune{0xAA, 0xB5, 0xBA, 0xDF, 0xFF, 0x130, 0x131, 0x138, 0x149, 0x178, 0x17F, 0x3C2}
}

// everyRune goes through all characters, the numbers around them that are none, and the ends of the type.
func everyRune(f func(r rune)) {
	for r := rune(-1000); r < 0x110000+1000; r++ {
		f(r)
	}
	for d := range rune(200) {
		f(math.MinInt32 + d)
		f(math.MaxInt32 - d)
	}
}

func upTable() map[rune]rune {
	up := map[rune]rune{0x3C2: 0x3A3, 0x17F: 'S', 0xFF: 0x178}
	big := []rune(capitals)
	for i, r := range []rune(smalls) {
		up[r] = big[i]
	}
	return up
}

func downTable() map[rune]rune {
	down := map[rune]rune{0x178: 0xFF}
	small := []rune(smalls)
	for i, r := range []rune(capitals) {
		down[r] = small[i]
	}
	return down
}

func letterTable() map[rune]bool {
	letters := map[rune]bool{}
	for _, r := range smalls + capitals {
		letters[r] = true
	}
	for _, r := range lonely() {
		letters[r] = true
	}
	return letters
}

func TestTheTablesOfTheTests(t *testing.T) {
	if a, b := len([]rune(smalls)), len([]rune(capitals)); a != b || a != 26+30+27+8+23+3+24+32+16 {
		t.Fatalf("%d small letters, %d capitals", a, b)
	}
	if got := len(letterTable()); got != 2*189+12 {
		t.Fatalf("%d letters", got)
	}
}

// P1.1: Up.
func TestUpOfEveryRune(t *testing.T) {
	up := upTable()
	everyRune(func(r rune) {
		want, ok := up[r]
		if !ok {
			want = r
		}
		if got := Up(r); got != want {
			t.Errorf("Up(%#x) = %#x, want %#x", r, got, want)
		}
	})
}

// P1.1: Down.
func TestDownOfEveryRune(t *testing.T) {
	down := downTable()
	everyRune(func(r rune) {
		want, ok := down[r]
		if !ok {
			want = r
		}
		if got := Down(r); got != want {
			t.Errorf("Down(%#x) = %#x, want %#x", r, got, want)
		}
	})
}

// P1.1: Letter.
func TestLetterOfEveryRune(t *testing.T) {
	letters := letterTable()
	everyRune(func(r rune) {
		if got := Letter(r); got != letters[r] {
			t.Errorf("Letter(%#x) = %v", r, got)
		}
	})
}

// P1.1: Digit.
func TestDigitOfEveryRune(t *testing.T) {
	digits := map[rune]int{}
	for i := range 10 {
		digits[[]rune("0123456789")[i]] = i
		digits[[]rune("٠١٢٣٤٥٦٧٨٩")[i]] = i
	}
	everyRune(func(r rune) {
		want, ok := digits[r]
		if !ok {
			want = -1
		}
		if got := Digit(r); got != want {
			t.Errorf("Digit(%#x) = %d, want %d", r, got, want)
		}
	})
}

// P1.1: Blank.
func TestBlankOfEveryRune(t *testing.T) {
	blanks := "\t\n\v\f\r \u0085\u00a0\u2028\u2029"
	everyRune(func(r rune) {
		want := r >= 0 && r != 0xFFFD && strings.ContainsRune(blanks, r)
		if got := Blank(r); got != want {
			t.Errorf("Blank(%#x) = %v", r, got)
		}
	})
}

// P1.1: the edges that the chapter names, one by one.
func TestEdgesOfPairs(t *testing.T) {
	for _, c := range []struct{ r, up, down rune }{
		{'`', '`', '`'}, {'a', 'A', 'a'}, {'z', 'Z', 'z'}, {'{', '{', '{'},
		{'@', '@', '@'}, {'A', 'A', 'a'}, {'Z', 'Z', 'z'}, {'[', '[', '['},
		{0xBF, 0xBF, 0xBF}, {0xC0, 0xC0, 0xE0}, {0xD7, 0xD7, 0xD7}, {0xDE, 0xDE, 0xFE},
		{0xDF, 0xDF, 0xDF}, {0xE0, 0xC0, 0xE0}, {0xF7, 0xF7, 0xF7}, {0xFE, 0xDE, 0xFE}, {0xFF, 0x178, 0xFF},
		{0x100, 0x100, 0x101}, {0x101, 0x100, 0x101}, {0x12F, 0x12E, 0x12F},
		{0x130, 0x130, 0x130}, {0x131, 0x131, 0x131}, {0x132, 0x132, 0x133}, {0x133, 0x132, 0x133},
		{0x136, 0x136, 0x137}, {0x137, 0x136, 0x137}, {0x138, 0x138, 0x138},
		{0x139, 0x139, 0x13A}, {0x13A, 0x139, 0x13A}, {0x147, 0x147, 0x148}, {0x148, 0x147, 0x148}, {0x149, 0x149, 0x149},
		{0x14A, 0x14A, 0x14B}, {0x14B, 0x14A, 0x14B}, {0x176, 0x176, 0x177}, {0x177, 0x176, 0x177}, {0x178, 0x178, 0xFF},
		{0x179, 0x179, 0x17A}, {0x17A, 0x179, 0x17A}, {0x17D, 0x17D, 0x17E}, {0x17E, 0x17D, 0x17E},
		{0x17F, 'S', 0x17F}, {0x180, 0x180, 0x180},
		{0x390, 0x390, 0x390}, {0x391, 0x391, 0x3B1}, {0x3A2, 0x3A2, 0x3A2}, {0x3A3, 0x3A3, 0x3C3}, {0x3A9, 0x3A9, 0x3C9}, {0x3AA, 0x3AA, 0x3AA},
		{0x3B0, 0x3B0, 0x3B0}, {0x3B1, 0x391, 0x3B1}, {0x3C2, 0x3A3, 0x3C2}, {0x3C3, 0x3A3, 0x3C3}, {0x3C9, 0x3A9, 0x3C9}, {0x3CA, 0x3CA, 0x3CA},
		{0x3FF, 0x3FF, 0x3FF}, {0x400, 0x400, 0x450}, {0x40F, 0x40F, 0x45F}, {0x410, 0x410, 0x430}, {0x42F, 0x42F, 0x44F},
		{0x430, 0x410, 0x430}, {0x44F, 0x42F, 0x44F}, {0x450, 0x400, 0x450}, {0x45F, 0x40F, 0x45F}, {0x460, 0x460, 0x460},
		{0xAA, 0xAA, 0xAA}, {0xB5, 0xB5, 0xB5}, {0xBA, 0xBA, 0xBA}, {'7', '7', '7'}, {0x1E9E, 0x1E9E, 0x1E9E},
		{-1, -1, -1}, {0xD800, 0xD800, 0xD800}, {0xFFFD, 0xFFFD, 0xFFFD}, {0x110000, 0x110000, 0x110000},
		{math.MaxInt32, math.MaxInt32, math.MaxInt32}, {math.MinInt32, math.MinInt32, math.MinInt32},
	} {
		if up, down := Up(c.r), Down(c.r); up != c.up || down != c.down {
			t.Errorf("%#x: Up %#x, Down %#x, want %#x, %#x", c.r, up, down, c.up, c.down)
		}
	}
}
