package exact

import (
	"math"
	"math/big"
	"slices"
	"testing"

	"sextant/api"
)

// The chapter's examples.
func TestExamples(t *testing.T) {
	n, e := Div(Int(1), Int(3))
	check(t, "1 over 3", n, e, num("1/3", "0"), api.OK)
	n, e = Floor(num("-1/3", "0"))
	check(t, "Floor", n, e, num("-1", "0"), api.OK)
	q, r, e := DivMod(Int(-7), Int(2))
	check(t, "DivMod", q, e, num("-4", "0"), api.OK)
	check(t, "DivMod", r, e, num("1", "0"), api.OK)
	q, r, e = DivMod(Int(7), Int(-2))
	check(t, "DivMod", q, e, num("-3", "0"), api.OK)
	check(t, "DivMod", r, e, num("1", "0"), api.OK)
	n, e = Expt(num("1/2", "0"), -3)
	check(t, "Expt", n, e, num("8", "0"), api.OK)
	n, e = Expt(num("1", "1"), 2)
	check(t, "Expt", n, e, num("0", "2"), api.OK)
	n, e = Read("#xFF", 10)
	check(t, "Read", n, e, num("255", "0"), api.OK)
	n, e = Read("#b#e101", 10)
	check(t, "Read", n, e, num("5", "0"), api.OK)
}

// P3.1: Sound.
func TestSound(t *testing.T) {
	for _, a := range numbers() {
		if !Sound(a.num()) {
			t.Errorf("Sound(%s) is false", brief(a.num()))
		}
	}
	for i, a := range unsound() {
		if Sound(a) {
			t.Errorf("Sound of number %d that is not is true", i)
		}
	}
	empty := api.Rat{Top: []uint32{}, Bot: []uint32{1}}
	if !Sound(api.Num{Re: empty, Im: empty}) {
		t.Error("0 is the empty list, nil or not")
	}
	full := api.Rat{Neg: true, Top: list(api.MaxWords, allBits), Bot: append(list(api.MaxWords-1, 0), 1)}
	if !Sound(api.Num{Re: full, Im: full}) {
		t.Error("MaxWords words above and below are fine")
	}
}

// P3.1: Sound of short fractions, by trying all divisors.
func TestSoundOfAll(t *testing.T) {
	one := api.Rat{Top: []uint32{1}, Bot: []uint32{1}}
	short := func(n int) []uint32 {
		return wordsOf(big.NewInt(int64(n)))
	}
	for top := range 40 {
		for bot := range 40 {
			want := bot > 0
			for d := 2; d < 40; d++ {
				want = want && (top%d > 0 || bot%d > 0)
			}
			for _, neg := range []bool{false, true} {
				r := api.Rat{Neg: neg, Top: short(top), Bot: short(bot)}
				good := want && !(neg && top == 0)
				if Sound(api.Num{Re: r, Im: one}) != good || Sound(api.Num{Re: one, Im: r}) != good {
					t.Errorf("Sound of %v %d over %d is not %v", neg, top, bot, good)
				}
			}
		}
	}
}

// P3.1: Int, and Small of it.
func TestInt(t *testing.T) {
	for _, n := range []int{0, 1, -1, 2, -2, 1000, math.MaxInt32, math.MinInt32, math.MaxUint32, math.MaxUint32 + 1, -math.MaxUint32, -math.MaxUint32 - 1, math.MaxInt - 1, math.MaxInt, math.MinInt, math.MinInt + 1, 0x123456789abcdef0} {
		a := Int(n)
		check(t, "Int", a, api.OK, realNum(new(big.Rat).SetInt64(int64(n))), api.OK)
		if got, e := Small(a); got != n || e != api.OK {
			t.Errorf("Small(Int(%d)) is %d, error %d", n, got, e)
		}
	}
}

// P3.1: Small of numbers that are no int.
func TestSmall(t *testing.T) {
	for _, c := range []struct {
		a   api.Num
		n   int
		err api.Errno
	}{
		{num("9223372036854775807", "0"), math.MaxInt, api.OK},
		{num("9223372036854775808", "0"), 0, api.ErrLarge},
		{num("9223372036854775809", "0"), 0, api.ErrLarge},
		{num("-9223372036854775807", "0"), -math.MaxInt, api.OK},
		{num("-9223372036854775808", "0"), math.MinInt, api.OK},
		{num("-9223372036854775809", "0"), 0, api.ErrLarge},
		{num("18446744073709551615", "0"), 0, api.ErrLarge},
		{num("18446744073709551616", "0"), 0, api.ErrLarge},
		{num("-18446744073709551617", "0"), 0, api.ErrLarge},
		{api.Num{Re: api.Rat{Top: list(api.MaxWords, allBits), Bot: []uint32{1}}, Im: api.Rat{Bot: []uint32{1}}}, 0, api.ErrLarge},
		{num("1/2", "0"), 0, api.ErrType},
		{num("0", "1"), 0, api.ErrType},
		{num("5", "-1/3"), 0, api.ErrType},
		{num("18446744073709551616", "1"), 0, api.ErrType},
		{num("18446744073709551617/2", "0"), 0, api.ErrType},
	} {
		if n, e := Small(c.a); n != c.n || e != c.err {
			t.Errorf("Small(%s) is %d, error %d; want %d, error %d", brief(c.a), n, e, c.n, c.err)
		}
	}
	for _, a := range unsound() {
		if n, e := Small(a); n != 0 || e != api.ErrForm {
			t.Errorf("Small of what is not sound is %d, error %d", n, e)
		}
	}
}

// P3.1: Same of all pairs of numbers.
func TestSame(t *testing.T) {
	all := numbers()
	for _, a := range all {
		x := a.num()
		for _, b := range all {
			y := b.num()
			want := a.re.Cmp(b.re) == 0 && a.im.Cmp(b.im) == 0
			if Same(x, y) != want {
				t.Errorf("Same(%s; %s) is not %v", brief(x), brief(y), want)
			}
		}
	}
	full := list(api.MaxWords, allBits)
	a := api.Num{Re: api.Rat{Bot: []uint32{1}}, Im: api.Rat{Top: full, Bot: []uint32{1}}}
	b := api.Num{Re: api.Rat{Top: []uint32{}, Bot: []uint32{1}}, Im: api.Rat{Top: slices.Clone(full), Bot: []uint32{1}}}
	if !Same(a, b) {
		t.Error("nil and empty lists are the same")
	}
}

// P3.1: what is not sound is the same as nothing, itself included, and is not whole.
func TestNothingOfUnsound(t *testing.T) {
	for a, b := range wrongPairs {
		if Same(a, b) {
			t.Errorf("Same(%v, %v) is true", a, b)
		}
	}
	for _, a := range unsound() {
		if Same(a, a) || Whole(a) {
			t.Errorf("Same or Whole of %v is true", a)
		}
	}
}

// P3.1: Whole.
func TestWhole(t *testing.T) {
	for _, a := range numbers() {
		if got, want := Whole(a.num()), a.im.Sign() == 0 && a.re.IsInt(); got != want {
			t.Errorf("Whole(%s) is %v", brief(a.num()), got)
		}
	}
	if Whole(num("3", "1/2")) || Whole(num("3", "2")) || Whole(num("1/3", "0")) || !Whole(num("-3", "0")) || !Whole(num("0", "0")) {
		t.Error("Whole of short numbers")
	}
}
