package exact

import (
	"math"
	"math/big"
	"regexp"
	"strconv"
	"strings"
	"testing"

	"sextant/api"
)

var radixes = []int{2, 8, 10, 16}

func checkText(t *testing.T, what, got string, e api.Errno, want string, err api.Errno) {
	t.Helper()
	if got != want || e != err {
		t.Errorf("%s: %q, error %d; want %q, error %d", what, got, e, want, err)
	}
}

// P3.4: Text of each kind of number.
func TestText(t *testing.T) {
	for _, c := range []struct{ re, im, want string }{
		{"0", "0", "0"},
		{"5", "0", "5"},
		{"-5", "0", "-5"},
		{"-1/3", "0", "-1/3"},
		{"22/7", "0", "22/7"},
		{"0", "1", "+i"},
		{"0", "-1", "-i"},
		{"0", "2", "+2i"},
		{"0", "-2", "-2i"},
		{"0", "1/2", "+1/2i"},
		{"0", "-1/2", "-1/2i"},
		{"0", "3/2", "+3/2i"},
		{"0", "10", "+10i"},
		{"1", "1", "1+i"},
		{"1", "-1", "1-i"},
		{"-1", "1", "-1+i"},
		{"1", "-2", "1-2i"},
		{"-1/2", "3/4", "-1/2+3/4i"},
		{"1/2", "-3/4", "1/2-3/4i"},
	} {
		s, e := Text(num(c.re, c.im), 10)
		checkText(t, "Text", s, e, c.want, api.OK)
		n, e := Read(c.want, 10)
		check(t, "Read of "+c.want, n, e, num(c.re, c.im), api.OK)
	}
	for radix, want := range map[int]string{2: "-11111111/10000+101i", 8: "-377/20+5i", 10: "-255/16+5i", 16: "-ff/10+5i"} {
		s, e := Text(num("-255/16", "5"), radix)
		checkText(t, "Text", s, e, want, api.OK)
	}
}

// textOf writes a number by the library's own digits.
func textOf(a oracle, radix int) string {
	part := func(r *big.Rat) string {
		if r.IsInt() {
			return r.Num().Text(radix)
		}
		return r.Num().Text(radix) + "/" + r.Denom().Text(radix)
	}
	if a.im.Sign() == 0 {
		return part(a.re)
	}
	im := part(a.im)
	if im == "1" || im == "-1" {
		im = strings.TrimSuffix(im, "1")
	}
	if a.im.Sign() > 0 {
		im = "+" + im
	}
	if a.re.Sign() == 0 {
		return im + "i"
	}
	return part(a.re) + im + "i"
}

// P3.4 and what follows: Text in every radix, and Read of it, unless it has too many bytes.
func TestTextAndBack(t *testing.T) {
	for _, radix := range radixes {
		for _, a := range numbers() {
			want := textOf(a, radix)
			s, e := Text(a.num(), radix)
			checkText(t, "Text("+brief(a.num())+")", s, e, want, api.OK)
			for _, s := range []string{s, strings.ToUpper(s)} {
				n, e := Read(s, radix)
				if len(s) > api.MaxShift {
					check(t, "Read of too many bytes", n, e, api.Num{}, api.ErrLarge)
					continue
				}
				check(t, "Read of it", n, e, a.num(), api.OK)
			}
		}
	}
}

// P3.4 and P3.5: a radix that is not allowed; ErrForm is named ahead of it, all others after it.
func TestWrongRadix(t *testing.T) {
	for radix := -40; radix <= 40; radix++ {
		_, e := Text(Int(5), radix)
		_, f := Read("0", radix)
		good := radix == 2 || radix == 8 || radix == 10 || radix == 16
		if (e == api.OK) != good || (f == api.OK) != good {
			t.Errorf("radix %d: errors %d and %d", radix, e, f)
		}
	}
	for _, radix := range []int{0, 1, 3, 7, 9, 11, 15, 17, 32, 36, -2, -10, 1<<32 + 10, math.MaxInt, math.MinInt} {
		s, e := Text(num("1/2", "3"), radix)
		checkText(t, "Text", s, e, "", api.ErrArg)
		for _, s := range []string{"1", "", "x", "#x10", "1/0", strings.Repeat("1", api.MaxShift+1)} {
			n, e := Read(s, radix)
			check(t, "Read", n, e, api.Num{}, api.ErrArg)
		}
		for _, a := range unsound() {
			s, e := Text(a, radix)
			checkText(t, "Text", s, e, "", api.ErrForm)
		}
	}
	for _, a := range unsound() {
		s, e := Text(a, 10)
		checkText(t, "Text", s, e, "", api.ErrForm)
	}
}

// digitsOf is the class of a radix's digits.
func digitsOf(radix int) string {
	return map[int]string{2: "[01]", 8: "[0-7]", 10: "[0-9]", 16: "[0-9a-fA-F]"}[radix]
}

// reader tells what a text is by a regular expression for each radix, and by the library's own reading of numbers.
type reader struct {
	prefixes *regexp.Regexp
	bodies   map[int]*regexp.Regexp
}

func newReader() reader {
	r := reader{regexp.MustCompile(`^(?:#([bBoOdDxX])(?:#[eE])?|#[eE](?:#([bBoOdDxX]))?)`), map[int]*regexp.Regexp{}}
	for _, radix := range radixes {
		d := digitsOf(radix) + "+"
		fraction := d + "(?:/" + d + ")?"
		r.bodies[radix] = regexp.MustCompile("^([+-]?" + fraction + ")?(?:([+-](?:" + fraction + ")?)[iI])?$")
	}
	return r
}

func (r reader) read(s string, radix int) (oracle, api.Errno) {
	body := s
	if found := r.prefixes.FindStringSubmatch(s); found != nil {
		body = s[len(found[0]):]
		for letter, by := range map[string]int{"b": 2, "o": 8, "d": 10, "x": 16} {
			if strings.ToLower(found[1]+found[2]) == letter {
				radix = by
			}
		}
	}
	found := r.bodies[radix].FindStringSubmatch(body)
	if found == nil || body == "" {
		return oracle{}, api.ErrText
	}
	re, e := partOf(found[1], radix)
	im, f := partOf(found[2], radix)
	if len(s) > api.MaxShift {
		return oracle{}, api.ErrLarge
	}
	return oracle{re, im}, max(e, f)
}

// partOf is the fraction that stands there; ErrLarge is a greater number than ErrZero.
func partOf(s string, radix int) (*big.Rat, api.Errno) {
	switch s {
	case "":
		return new(big.Rat), api.OK
	case "+", "-":
		s += "1"
	}
	above, below, ok := strings.Cut(s, "/")
	if !ok {
		below = "1"
	}
	top, _ := new(big.Int).SetString(above, radix)
	bot, _ := new(big.Int).SetString(below, radix)
	if max(top.BitLen(), bot.BitLen()) > 32*api.MaxWords {
		return nil, api.ErrLarge
	}
	if bot.Sign() == 0 {
		return nil, api.ErrZero
	}
	return frac(top, bot), api.OK
}

func (r reader) check(t *testing.T, s string, radix int) {
	t.Helper()
	want, err := r.read(s, radix)
	n, e := Read(s, radix)
	what := "Read(" + strconv.Quote(s[:min(len(s), 40)]) + ", " + strconv.Itoa(radix) + ")"
	if err != api.OK {
		check(t, what, n, e, api.Num{}, err)
		return
	}
	check(t, what, n, e, want.num(), api.OK)
}

// P3.5: every short text of the bytes that numbers are made of.
func TestReadAll(t *testing.T) {
	r := newReader()
	var walk func(s, bytes string, more int)
	walk = func(s, bytes string, more int) {
		for _, radix := range radixes {
			r.check(t, s, radix)
		}
		if more == 0 {
			return
		}
		for i := range bytes {
			walk(s+bytes[i:i+1], bytes, more-1)
		}
	}
	walk("", "+-/iI01", 5)
	walk("", "#bBeEx1+i", 4)
	walk("#", "oOdDxX#e19", 4)
	walk("0", "+/0i9fA", 4)
	for a := range 256 {
		for _, around := range []string{"", "1", "+1", "1/1", "1+i", "+"} {
			s := string([]byte{byte(a)})
			r.check(t, s+around, 16)
			r.check(t, around+s, 16)
			r.check(t, around+s+"1", 10)
			r.check(t, "#"+s+around, 10)
		}
	}
}

// P3.5: each prefix, alone, twice and in both orders, small letters and capitals.
func TestPrefixes(t *testing.T) {
	for _, c := range []struct {
		letters, ten string
	}{{"bB", "2"}, {"oO", "8"}, {"dD", "10"}, {"xX", "16"}} {
		for _, letter := range strings.Split(c.letters, "") {
			for _, e := range []string{"e", "E"} {
				for _, s := range []string{"#" + letter, "#" + letter + "#" + e, "#" + e + "#" + letter} {
					for _, radix := range radixes {
						n, err := Read(s+"10", radix)
						check(t, s+"10", n, err, num(c.ten, "0"), api.OK)
						n, err = Read(s+"-10/1+10i", radix)
						check(t, s+"-10/1+10i", n, err, num("-"+c.ten, c.ten), api.OK)
					}
				}
				for _, s := range []string{"#" + letter + "#" + letter, "#" + e + "#" + e, "#" + letter + "#" + e + "#" + letter, "#" + e + "#" + letter + "#" + e, "#b#" + letter, "#" + letter + "#X", "#" + letter + "#", "#" + letter + "##" + e, "##" + letter} {
					n, err := Read(s+"1", 10)
					check(t, s+"1", n, err, api.Num{}, api.ErrText)
				}
			}
			n, err := Read("#"+letter, 10)
			check(t, "#"+letter+" alone", n, err, api.Num{}, api.ErrText)
			n, err = Read("1#"+letter, 10)
			check(t, "1#"+letter, n, err, api.Num{}, api.ErrText)
		}
	}
	n, err := Read("#e10", 8)
	check(t, "#e keeps the radix", n, err, num("8", "0"), api.OK)
	n, err = Read("#xe1", 10)
	check(t, "e is a digit behind #x", n, err, num("225", "0"), api.OK)
	n, err = Read("#i1", 10)
	check(t, "#i1", n, err, api.Num{}, api.ErrText)
}

// P3.5: imaginary parts of 1, -1 and 0, and what reads like one and is none.
func TestReadImaginary(t *testing.T) {
	for s, want := range map[string]api.Num{
		"+i": num("0", "1"), "-I": num("0", "-1"), "+1i": num("0", "1"), "-1i": num("0", "-1"),
		"+0i": num("0", "0"), "-0i": num("0", "0"), "-0": num("0", "0"), "+0/7": num("0", "0"), "-0-0/3i": num("0", "0"),
		"1+i": num("1", "1"), "1-i": num("1", "-1"), "-1-1i": num("-1", "-1"), "5+0i": num("5", "0"), "0-2/4i": num("0", "-1/2"),
		"6/4-10/5I": num("3/2", "-2"), "+2/6+003/009i": num("1/3", "1/3"),
	} {
		n, e := Read(s, 10)
		check(t, s, n, e, want, api.OK)
	}
	for _, s := range []string{"", "i", "I", "1i", "1/2i", "5I", "1+", "1-", "+", "-", "1/-2", "1/+2", "1//2", "/2", "1/", "1/2/3", "+i+i", "1+i+i", "1+2", "1+2ii", "1+ii", "i1", "+i1", "1+i2", "--1", "+-1", "1--i", "1+-i", "1 ", " 1", "1 +i", "1+ i", "1.0", "1e2", "1+/2i", "1+2/i", "+/i", "1_0", "#", "##", "#1", "1#", "1@1", "\x00", "1\xff", "１", "+inf.0"} {
		n, e := Read(s, 10)
		check(t, s, n, e, api.Num{}, api.ErrText)
	}
}

// P3.5: texts of MaxShift bytes and one more; numbers of MaxWords words and one more, in each place.
func TestReadLong(t *testing.T) {
	r := newReader()
	zeros := strings.Repeat("0", api.MaxShift)
	limit := pow2(32 * api.MaxWords)
	for _, radix := range radixes {
		last := new(big.Int).Sub(limit, big.NewInt(1)).Text(radix)
		long := limit.Text(radix)
		for _, s := range []string{
			last, long, "-" + last, "1/" + last, "1/" + long, "+" + last + "i", "-" + long + "i", "1+" + last + "i", "1+" + long + "i", long + "+i", "1+1/" + long + "i", "1+1/" + last + "i", "#e" + last,
			zeros, zeros + "0", zeros[1:] + "1", zeros + "1", zeros[2:] + "+i", zeros[1:] + "+i", "+" + zeros[2:] + "i", "+" + zeros[1:] + "i", "1/" + zeros[2:], "1/" + zeros[1:], zeros[3:] + "1/1", zeros[3:] + "/01", zeros[2:] + "/01",
			"#e" + zeros[2:], "#e" + zeros[1:], "#b#e" + zeros[4:], "#b#e" + zeros[3:],
		} {
			r.check(t, s, radix)
		}
	}
	n, e := Read("#b"+strings.Repeat("1", api.MaxShift), 10)
	check(t, "MaxShift bits and a prefix", n, e, api.Num{}, api.ErrLarge)
	n, e = Read(strings.Repeat("1", api.MaxShift), 2)
	check(t, "MaxShift bits", n, e, realNum(wholeRat(new(big.Int).Sub(limit, big.NewInt(1)))), api.OK)
}

// P3.5: bottoms of noughts alone; with a number that is too long beside them, above, below or in the other part; and within texts that are none.
func TestReadFaults(t *testing.T) {
	long := "1" + strings.Repeat("0", api.MaxShift/2)
	longer := strings.Repeat("7", api.MaxShift+1)
	for s, want := range map[string]api.Errno{
		"1/0": api.ErrZero, "0/0": api.ErrZero, "-1/000": api.ErrZero, "1/00+i": api.ErrZero, "1+1/0i": api.ErrZero, "+1/0i": api.ErrZero, "1/0-2/0i": api.ErrZero, "#x1/0": api.ErrZero,
		"1/0+": api.ErrText, "1/0i": api.ErrText, "1/0 ": api.ErrText, "1/0/1": api.ErrText,
		long: api.ErrLarge, long + "/0": api.ErrLarge, "1/0+" + long + "i": api.ErrLarge, long + "+1/0i": api.ErrLarge, "1/0+1/" + long + "i": api.ErrLarge, "1/" + long + "-1/0i": api.ErrLarge, "+" + long + "/0i": api.ErrLarge,
		longer: api.ErrLarge, longer + "/0": api.ErrLarge, "1/" + longer: api.ErrLarge, "1/0" + strings.Repeat("0", api.MaxShift): api.ErrLarge,
		longer + "+": api.ErrText, longer + "i": api.ErrText, "#x#x" + longer: api.ErrText, longer + "/": api.ErrText, long + "~": api.ErrText, strings.Repeat("~", api.MaxShift+1): api.ErrText,
	} {
		n, e := Read(s, 10)
		check(t, "Read of "+s[:min(len(s), 30)], n, e, api.Num{}, want)
	}
}

// P3.5: Read against the regular expressions.
func FuzzRead(f *testing.F) {
	for _, s := range []string{"#xFF", "#b#e101", "2/4", "+i", "1-2i", "-1/2+3/4I", "1/0"} {
		f.Add(s, byte(2))
	}
	r := newReader()
	f.Fuzz(func(t *testing.T, s string, k byte) {
		r.check(t, s, radixes[int(k)%len(radixes)])
	})
}

// P3.2 to P3.4: the numbers against the library's own arithmetic, and Read of Text.
func FuzzNumbers(f *testing.F) {
	f.Add([]byte{1, 2, 3}, []byte{4, 5}, []byte{6}, []byte{}, byte(5), int8(3))
	f.Fuzz(func(t *testing.T, x, y, z, w []byte, signs byte, n int8) {
		if max(len(x), len(y), len(z), len(w)) > 4*api.MaxWords {
			return
		}
		part := func(top, bot []byte, neg bool) *big.Rat {
			below := new(big.Int).SetBytes(bot)
			if below.Sign() == 0 {
				below.SetInt64(1)
			}
			r := frac(new(big.Int).SetBytes(top), below)
			if neg {
				r.Neg(r)
			}
			return r
		}
		a := oracle{part(x, y, signs&1 > 0), part(z, w, signs&2 > 0)}
		b := oracle{part(z, y, signs&4 > 0), part(w, x, signs&8 > 0)}
		checkPair(t, a, b)
		checkPair(t, oracle{a.re, new(big.Rat)}, oracle{b.re, new(big.Rat)})
		checkPower(t, a, int(n)%9)
		for _, radix := range radixes {
			s, e := Text(a.num(), radix)
			checkText(t, "Text", s, e, textOf(a, radix), api.OK)
			if len(s) <= api.MaxShift {
				got, e := Read(s, radix)
				check(t, "Read of Text", got, e, a.num(), api.OK)
			}
		}
	})
}
