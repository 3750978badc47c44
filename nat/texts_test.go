package nat

import (
	"math"
	"math/big"
	"slices"
	"strings"
	"testing"

	"sextant/api"
)

func checkText(t *testing.T, what, got string, e api.Errno, want string, err api.Errno) {
	t.Helper()
	if got != want || e != err {
		t.Errorf("%s: %q, error %d; want %q, error %d", what, got, e, want, err)
	}
}

// P2.3: Text, and Read of it, in each radix.
func TestTextAndBack(t *testing.T) {
	numbers := append(edges(), some(40, 60)...)
	for radix := 2; radix <= 36; radix++ {
		for _, a := range numbers {
			want := bigOf(a).Text(radix)
			s, e := Text(a, radix)
			checkText(t, "Text("+brief(a)+")", s, e, want, api.OK)
			for _, s := range []string{want, strings.ToUpper(want), "0" + want, strings.Repeat("0", 70) + want} {
				got, e := Read(s, radix)
				if len(s) > api.MaxShift {
					check(t, "Read of too many digits", got, e, nil, api.ErrLarge)
					continue
				}
				check(t, "Read of "+brief(a), got, e, wordsOf(bigOf(a)), api.OK)
			}
		}
	}
}

// P2.3: each digit of each radix, alone and below another, and the byte after the last.
func TestDigits(t *testing.T) {
	const small, capitals = "0123456789abcdefghijklmnopqrstuvwxyz", "0123456789ABCDEFGHIJKLMNOPQRSTUVWXYZ"
	for radix := 2; radix <= 36; radix++ {
		for value := range 36 {
			for _, s := range []string{small[value : value+1], capitals[value : value+1]} {
				got, e := Read(s, radix)
				pair, f := Read("1"+s, radix)
				if value >= radix {
					check(t, "Read "+s, got, e, nil, api.ErrText)
					check(t, "Read 1"+s, pair, f, nil, api.ErrText)
					continue
				}
				check(t, "Read "+s, got, e, Of(uint64(value)), api.OK)
				check(t, "Read 1"+s, pair, f, Of(uint64(radix+value)), api.OK)
			}
			if value < radix {
				s, e := Text(Of(uint64(value)), radix)
				checkText(t, "Text", s, e, small[value:value+1], api.OK)
			}
		}
	}
}

// P2.3: noughts within and at the end of a group of digits stay, those ahead go.
func TestNoughts(t *testing.T) {
	for radix := 2; radix <= 36; radix++ {
		for n := range 80 {
			digits := "1" + strings.Repeat("0", n)
			number := wordsOf(new(big.Int).Exp(big.NewInt(int64(radix)), big.NewInt(int64(n)), nil))
			got, e := Read("000"+digits, radix)
			check(t, "Read", got, e, number, api.OK)
			s, e := Text(number, radix)
			checkText(t, "Text", s, e, digits, api.OK)
		}
		for _, n := range []int{1, 2, 40, api.MaxShift} {
			got, e := Read(strings.Repeat("0", n), radix)
			check(t, "Read of noughts", got, e, nil, api.OK)
		}
		s, e := Text([]uint32{}, radix)
		checkText(t, "Text of 0", s, e, "0", api.OK)
	}
}

// P2.3: texts of MaxShift bytes and one more; numbers of MaxWords words and one more.
func TestReadLong(t *testing.T) {
	full := list(api.MaxWords, allBits)
	got, e := Read(strings.Repeat("1", api.MaxShift), 2)
	check(t, "MaxShift bits", got, e, full, api.OK)
	got, e = Read(strings.Repeat("1", api.MaxShift+1), 2)
	check(t, "a bit more", got, e, nil, api.ErrLarge)
	got, e = Read(strings.Repeat("0", api.MaxShift-1)+"1", 10)
	check(t, "noughts and 1", got, e, []uint32{1}, api.OK)
	got, e = Read(strings.Repeat("0", api.MaxShift)+"1", 10)
	check(t, "a nought more", got, e, nil, api.ErrLarge)
	got, e = Read(strings.Repeat("0", 1<<20), 36)
	check(t, "a great many noughts", got, e, nil, api.ErrLarge)
	beyond := new(big.Int).Lsh(big.NewInt(1), api.MaxShift)
	last := new(big.Int).Sub(beyond, big.NewInt(1))
	for radix := 3; radix <= 36; radix++ {
		got, e := Read(last.Text(radix), radix)
		check(t, "the greatest number", got, e, full, api.OK)
		got, e = Read(beyond.Text(radix), radix)
		check(t, "one more", got, e, nil, api.ErrLarge)
		got, e = Read(strings.Repeat("2", api.MaxShift), radix)
		check(t, "MaxShift digits", got, e, nil, api.ErrLarge)
	}
}

// P2.3: a radix that is none; ErrForm is named ahead of it, the other errors after it.
func TestWrongRadix(t *testing.T) {
	for _, radix := range []int{0, 1, -1, -2, -10, 37, 64, 1 << 32, 1<<32 + 10, math.MaxInt, math.MinInt} {
		for _, a := range [][]uint32{nil, {1}, list(api.MaxWords, allBits)} {
			s, e := Text(a, radix)
			checkText(t, "Text", s, e, "", api.ErrArg)
		}
		for _, s := range []string{"", "0", "1", "10", "+", strings.Repeat("1", api.MaxShift+1)} {
			got, e := Read(s, radix)
			check(t, "Read", got, e, nil, api.ErrArg)
		}
		for _, a := range unsound() {
			s, e := Text(a, radix)
			checkText(t, "Text", s, e, "", api.ErrForm)
		}
	}
	for _, a := range unsound() {
		s, e := Text(a, 10)
		checkText(t, "Text", s, e, "", api.ErrForm)
	}
}

// P2.3: texts that are no numerals; ErrText is named ahead of ErrLarge.
func TestReadWrong(t *testing.T) {
	long := strings.Repeat("1", api.MaxShift+1)
	bad := []string{"", " ", "+1", "-1", " 1", "1 ", "1\n", "1.0", "1_0", "0x1", "1e-", "\x00", "\xff", "1\xff", "é", "１", "٣",
		long + " ", " " + long, long + "~" + long, strings.Repeat("~", api.MaxShift)}
	for radix := 2; radix <= 36; radix++ {
		for _, s := range bad {
			if s == "0x1" && radix > 33 {
				continue
			}
			got, e := Read(s, radix)
			check(t, "Read "+s[:min(len(s), 9)], got, e, nil, api.ErrText)
		}
	}
	const digits = "0123456789ABCDEFGHIJKLMNOPQRSTUVWXYZabcdefghijklmnopqrstuvwxyz"
	for c := range 256 {
		s := string([]byte{byte(c)})
		_, e := Read(s, 36)
		if (e == api.OK) != strings.Contains(digits, s) || e != api.OK && e != api.ErrText {
			t.Errorf("Read of byte %d: error %d", c, e)
		}
	}
}

// P2.3: Read against the library's own reading.
func FuzzRead(f *testing.F) {
	f.Add("00fF", 16)
	f.Add("", 10)
	f.Add("zz9", 36)
	f.Fuzz(func(t *testing.T, s string, radix int) {
		got, e := Read(s, radix)
		if radix < 2 || radix > 36 {
			check(t, "Read", got, e, nil, api.ErrArg)
			return
		}
		n, ok := new(big.Int).SetString(s, radix)
		if !ok || s[0] == '+' || s[0] == '-' || strings.Contains(s, "_") {
			check(t, "Read", got, e, nil, api.ErrText)
			return
		}
		want, err := expect(n)
		if len(s) > api.MaxShift {
			want, err = nil, api.ErrLarge
		}
		check(t, "Read", got, e, want, err)
	})
}

// P2.2: the numbers against the library's own arithmetic.
func FuzzNumbers(f *testing.F) {
	f.Add([]byte{1, 2, 3, 4, 5, 6, 7, 8, 9, 10, 11, 12}, []byte{0, 0, 0, 0, 1})
	f.Fuzz(func(t *testing.T, x, y []byte) {
		m, n := new(big.Int).SetBytes(x), new(big.Int).SetBytes(y)
		a, e := expect(m)
		b, f := expect(n)
		if e != api.OK || f != api.OK {
			return
		}
		want, err := expect(new(big.Int).Mul(m, n))
		got, e := Mul(a, b)
		check(t, "Mul", got, e, want, err)
		got, e = Gcd(a, b)
		check(t, "Gcd", got, e, wordsOf(new(big.Int).GCD(nil, nil, m, n)), api.OK)
		checkRoot(t, a)
		if len(b) == 0 {
			return
		}
		quo, rem := new(big.Int).QuoRem(m, n, new(big.Int))
		q, r, e := Div(a, b)
		check(t, "Div", q, e, wordsOf(quo), api.OK)
		check(t, "left", r, e, wordsOf(rem), api.OK)
	})
}

// R5: what one call was given is nothing to the next.
func TestAgain(t *testing.T) {
	a, _ := Read("123456789012345678901234567890", 10)
	first := slices.Clone(a)
	Text(a, 2)
	Read("777", 8)
	again, e := Read("123456789012345678901234567890", 10)
	check(t, "Read again", again, e, first, api.OK)
}
