package exact

import (
	"math"
	"math/big"
	"math/rand"
	"testing"

	"sextant/api"
)

// checkPair holds all calls of two numbers against the library's arithmetic.
func checkPair(t *testing.T, a, b oracle) {
	t.Helper()
	x, y := a.num(), b.num()
	of := "(" + brief(x) + "; " + brief(y) + ")"
	got, e := Add(x, y)
	checkValue(t, "Add"+of, got, e, a.plus(b))
	got, e = Sub(x, y)
	checkValue(t, "Sub"+of, got, e, a.minus(b))
	got, e = Mul(x, y)
	checkValue(t, "Mul"+of, got, e, a.times(b))
	got, e = Div(x, y)
	if b.isZero() {
		check(t, "Div"+of, got, e, api.Num{}, api.ErrZero)
	} else {
		checkValue(t, "Div"+of, got, e, a.over(b))
	}
	checkOrder(t, a, b)
	checkDivMod(t, a, b)
}

func checkOrder(t *testing.T, a, b oracle) {
	t.Helper()
	want, err := a.re.Cmp(b.re), api.OK
	if a.im.Sign() != 0 || b.im.Sign() != 0 {
		want, err = 0, api.ErrType
	}
	if got, e := Cmp(a.num(), b.num()); got != want || e != err {
		t.Errorf("Cmp(%s; %s) is %d, error %d; want %d, error %d", brief(a.num()), brief(b.num()), got, e, want, err)
	}
}

func checkDivMod(t *testing.T, a, b oracle) {
	t.Helper()
	what := "DivMod(" + brief(a.num()) + "; " + brief(b.num()) + ")"
	q, r, e := DivMod(a.num(), b.num())
	err := api.OK
	switch {
	case a.im.Sign() != 0 || b.im.Sign() != 0:
		err = api.ErrType
	case b.re.Sign() == 0:
		err = api.ErrZero
	}
	if err != api.OK {
		check(t, what, q, e, api.Num{}, err)
		check(t, what, r, e, api.Num{}, err)
		return
	}
	quotient := floor(new(big.Rat).Quo(a.re, new(big.Rat).Abs(b.re)))
	if b.re.Sign() < 0 {
		quotient.Neg(quotient)
	}
	left := new(big.Rat).Sub(a.re, new(big.Rat).Mul(quotient, b.re))
	wantQ, wantR := oracle{quotient, new(big.Rat)}, oracle{left, new(big.Rat)}
	if wantQ.large() || wantR.large() {
		check(t, what, q, e, api.Num{}, api.ErrLarge)
		check(t, what, r, e, api.Num{}, api.ErrLarge)
		return
	}
	check(t, what, q, e, wantQ.num(), api.OK)
	check(t, what+" left", r, e, wantR.num(), api.OK)
}

// P3.2: all pairs of short numbers, whole, real and complex, on both sides of 0.
func TestShortPairs(t *testing.T) {
	var all []oracle
	parts := []string{"0", "1", "-1", "2", "-3", "1/2", "-1/2", "2/3", "-7/6"}
	for _, re := range parts {
		for _, im := range parts {
			all = append(all, oracleOf(num(re, im)))
		}
	}
	for _, a := range all {
		for _, b := range all {
			checkPair(t, a, b)
		}
	}
}

// P3.2: pairs of real numbers up to the ends of all words.
func TestRealPairs(t *testing.T) {
	for _, x := range reals() {
		for _, y := range reals() {
			checkPair(t, oracle{x, new(big.Rat)}, oracle{y, new(big.Rat)})
		}
	}
}

// P3.2: pairs of complex numbers of all lengths.
func TestSomePairs(t *testing.T) {
	r := rand.New(rand.NewSource(7))
	for _, c := range []struct{ count, words int }{{300, 1}, {300, 3}, {60, 30}, {6, 200}} {
		for range c.count {
			a := oracle{someRat(r, c.words), someRat(r, c.words)}
			b := oracle{someRat(r, c.words), someRat(r, c.words)}
			checkPair(t, a, b)
			checkPair(t, oracle{a.re, new(big.Rat)}, oracle{b.re, new(big.Rat)})
		}
	}
}

// P3.2: a floor below 0 goes away from 0; each sign of both arguments of DivMod, by the chapter's own equation.
func TestFloor(t *testing.T) {
	for top := -20; top <= 20; top++ {
		for bot := 1; bot <= 7; bot++ {
			want := top / bot
			if want*bot > top {
				want--
			}
			a := realNum(big.NewRat(int64(top), int64(bot)))
			got, e := Floor(a)
			check(t, "Floor("+brief(a)+")", got, e, Int(want), api.OK)
		}
	}
	for _, x := range reals() {
		got, e := Floor(realNum(x))
		checkValue(t, "Floor", got, e, oracle{floor(x), new(big.Rat)})
		got, e = Floor(complexNum(x, big.NewRat(-1, 3)))
		check(t, "Floor of a complex number", got, e, api.Num{}, api.ErrType)
	}
	greatest := new(big.Int).Sub(pow2(32*api.MaxWords), big.NewInt(1))
	got, e := Floor(realNum(frac(new(big.Int).Neg(greatest), big.NewInt(2))))
	check(t, "Floor of the greatest", got, e, realNum(wholeRat(new(big.Int).Neg(pow2(32*api.MaxWords-1)))), api.OK)
}

// P3.2: each sign of both arguments of DivMod, whole ones and fractions.
func TestDivModSigns(t *testing.T) {
	for _, c := range []struct{ a, b, q, r string }{
		{"7", "2", "3", "1"},
		{"-7", "2", "-4", "1"},
		{"7", "-2", "-3", "1"},
		{"-7", "-2", "4", "1"},
		{"6", "2", "3", "0"},
		{"-6", "2", "-3", "0"},
		{"6", "-2", "-3", "0"},
		{"-6", "-2", "3", "0"},
		{"0", "-5", "0", "0"},
		{"1", "5", "0", "1"},
		{"-1", "5", "-1", "4"},
		{"1", "-5", "0", "1"},
		{"-1", "-5", "1", "4"},
		{"7/2", "1/3", "10", "1/6"},
		{"-7/2", "1/3", "-11", "1/6"},
		{"7/2", "-1/3", "-10", "1/6"},
		{"-7/2", "-1/3", "11", "1/6"},
		{"1/6", "5/4", "0", "1/6"},
		{"-1/6", "5/4", "-1", "13/12"},
	} {
		q, r, e := DivMod(num(c.a, "0"), num(c.b, "0"))
		check(t, "DivMod "+c.a+" "+c.b, q, e, num(c.q, "0"), api.OK)
		check(t, "DivMod "+c.a+" "+c.b+" left", r, e, num(c.r, "0"), api.OK)
	}
}

// P3.2: answers of just MaxWords words and of one more, above and below the stroke, in each part.
func TestLongAnswers(t *testing.T) {
	greatest := new(big.Int).Sub(pow2(32*api.MaxWords), big.NewInt(1))
	top, half := pow2(32*api.MaxWords-1), pow2(16*api.MaxWords)
	one := big.NewInt(1)
	longs := []*big.Rat{
		wholeRat(greatest), wholeRat(new(big.Int).Sub(greatest, one)), wholeRat(top), wholeRat(half),
		frac(one, greatest), frac(one, top), frac(one, half), frac(greatest, top), frac(half, new(big.Int).Sub(half, one)),
	}
	shorts := []*big.Rat{big.NewRat(1, 1), big.NewRat(-1, 1), big.NewRat(2, 1), big.NewRat(1, 2), big.NewRat(-3, 5), new(big.Rat).SetFrac(one, half), wholeRat(half), frac(one, pow2(16*api.MaxWords-1))}
	zero := new(big.Rat)
	for _, x := range longs {
		for _, y := range shorts {
			checkPair(t, oracle{x, zero}, oracle{y, zero})
			checkPair(t, oracle{y, zero}, oracle{x, zero})
			checkPair(t, oracle{zero, x}, oracle{zero, y})
			checkPair(t, oracle{y, x}, oracle{zero, y})
			checkPair(t, oracle{x, y}, oracle{y, zero})
		}
	}
	got, e := Add(realNum(wholeRat(greatest)), Int(1))
	check(t, "one word more", got, e, api.Num{}, api.ErrLarge)
	got, e = Add(imagNum(wholeRat(greatest)), num("0", "1"))
	check(t, "one word more in Im", got, e, api.Num{}, api.ErrLarge)
	got, e = Mul(realNum(frac(one, half)), realNum(frac(one, half)))
	check(t, "one word more below", got, e, api.Num{}, api.ErrLarge)
}

// P3.2: answers that are short again behind longer ones on the way.
func TestShortAgain(t *testing.T) {
	r := rand.New(rand.NewSource(11))
	odd := func() *big.Int {
		n := new(big.Int).Rand(r, pow2(32*api.MaxWords-1))
		return n.SetBit(n.SetBit(n, 0, 1), 32*api.MaxWords-1, 1)
	}
	p, q := odd(), odd()
	one := big.NewInt(1)
	over := func(n *big.Int) *big.Rat { return frac(n, p) }
	rest := new(big.Int).Sub(p, one)
	got, e := Add(realNum(over(one)), realNum(over(rest)))
	check(t, "1/p + (p-1)/p", got, e, Int(1), api.OK)
	got, e = Add(complexNum(over(one), over(rest)), complexNum(over(rest), over(one)))
	check(t, "in both parts", got, e, num("1", "1"), api.OK)
	got, e = Sub(realNum(frac(q, p)), realNum(frac(q, p)))
	check(t, "q/p - q/p", got, e, Int(0), api.OK)
	got, e = Mul(realNum(frac(q, p)), realNum(frac(p, q)))
	check(t, "q/p times p/q", got, e, Int(1), api.OK)
	a := complexNum(frac(q, p), frac(odd(), odd()))
	got, e = Div(a, a)
	check(t, "a over a", got, e, Int(1), api.OK)
	got, e = Mul(imagNum(frac(q, p)), imagNum(frac(p, q)))
	check(t, "i times i", got, e, Int(-1), api.OK)
	quo, left, e := DivMod(realNum(frac(q, p)), realNum(frac(q, p)))
	check(t, "DivMod", quo, e, Int(1), api.OK)
	check(t, "DivMod", left, e, Int(0), api.OK)
	near := new(big.Int).Add(q, big.NewInt(1))
	checkOrder(t, oracle{frac(q, p), new(big.Rat)}, oracle{frac(near, new(big.Int).Add(p, one)), new(big.Rat)})
}

// P3.2: of DivMod either answer may be the one that is too long.
func TestLongDivMod(t *testing.T) {
	zero := new(big.Rat)
	p, q := new(big.Int).Add(pow2(10000), big.NewInt(1)), pow2(9000)
	one := big.NewInt(1)
	checkDivMod(t, oracle{frac(one, p), zero}, oracle{frac(one, q), zero})
	checkDivMod(t, oracle{frac(one, q), zero}, oracle{frac(one, p), zero})
	checkDivMod(t, oracle{wholeRat(p), zero}, oracle{frac(one, q), zero})
	_, left, e := DivMod(realNum(frac(one, q)), realNum(frac(big.NewInt(-3), p)))
	check(t, "a rest that is too long", left, e, api.Num{}, api.ErrLarge)
	quo, _, e := DivMod(realNum(wholeRat(pow2(16383))), num("1/2", "0"))
	check(t, "a quotient that is too long", quo, e, api.Num{}, api.ErrLarge)
	quo, _, e = DivMod(realNum(wholeRat(pow2(16383))), Int(1))
	check(t, "a quotient that is not", quo, e, realNum(wholeRat(pow2(16383))), api.OK)
}

// P3.2: what is not sound is told first, ahead of what is not real and of a divisor 0.
func TestUnsoundPairs(t *testing.T) {
	for a, b := range wrongPairs {
		for name, call := range map[string]func(a, b api.Num) (api.Num, api.Errno){"Add": Add, "Sub": Sub, "Mul": Mul, "Div": Div} {
			got, e := call(a, b)
			check(t, name, got, e, api.Num{}, api.ErrForm)
		}
		if got, e := Cmp(a, b); got != 0 || e != api.ErrForm {
			t.Errorf("Cmp is %d, error %d", got, e)
		}
		q, r, e := DivMod(a, b)
		check(t, "DivMod", q, e, api.Num{}, api.ErrForm)
		check(t, "DivMod left", r, e, api.Num{}, api.ErrForm)
	}
	for _, a := range unsound() {
		got, e := Floor(a)
		check(t, "Floor", got, e, api.Num{}, api.ErrForm)
	}
	q, r, e := DivMod(num("0", "1"), Int(0))
	check(t, "DivMod of i by 0", q, e, api.Num{}, api.ErrType)
	check(t, "DivMod of i by 0", r, e, api.Num{}, api.ErrType)
}

// P3: the exact numbers are a field, and their order goes with sums and products.
func TestField(t *testing.T) {
	sure := func(n api.Num, e api.Errno) api.Num {
		if e != api.OK {
			t.Fatalf("error %d", e)
		}
		return n
	}
	var all []api.Num
	for _, s := range []string{"0", "1", "-1", "3/4", "-5/6", "12345678901234567890/7"} {
		all = append(all, num(s, "0"), num(s, "-2/3"), num("1/7", s))
	}
	for _, a := range all {
		for _, b := range all {
			for _, c := range all {
				if !Same(sure(Mul(a, sure(Add(b, c)))), sure(Add(sure(Mul(a, b)), sure(Mul(a, c))))) {
					t.Errorf("a (b + c) of %s; %s; %s", brief(a), brief(b), brief(c))
				}
				x, e := Cmp(a, b)
				y, f := Cmp(sure(Add(a, c)), sure(Add(b, c)))
				if e == api.OK && f == api.OK && x != y {
					t.Errorf("the order of %s; %s with %s more", brief(a), brief(b), brief(c))
				}
			}
			if !Same(sure(Add(sure(Sub(a, b)), b)), a) {
				t.Errorf("a - b + b of %s; %s", brief(a), brief(b))
			}
			if !Same(b, Int(0)) && !Same(sure(Mul(sure(Div(a, b)), b)), a) {
				t.Errorf("a / b b of %s; %s", brief(a), brief(b))
			}
		}
	}
}

// power is a to the power n by the library's arithmetic; ok is false, if a power on the way or the answer is too long.
func (a oracle) power(n int) (out oracle, ok bool) {
	one := oracle{big.NewRat(1, 1), new(big.Rat)}
	out, ok = one, true
	for range max(n, -n) {
		out = out.times(a)
		if out.large() {
			return out, false
		}
	}
	if n < 0 {
		out = one.over(out)
	}
	return out, !out.large()
}

func checkPower(t *testing.T, a oracle, n int) {
	t.Helper()
	what := "Expt(" + brief(a.num()) + ")"
	got, e := Expt(a.num(), n)
	if n < 0 && a.isZero() {
		check(t, what, got, e, api.Num{}, api.ErrZero)
		return
	}
	want, ok := a.power(n)
	if !ok {
		check(t, what, got, e, api.Num{}, api.ErrLarge)
		return
	}
	check(t, what, got, e, want.num(), api.OK)
}

// P3.3: Expt of numbers of each kind.
func TestExpt(t *testing.T) {
	for _, a := range numbers() {
		for n := -6; n <= 6; n++ {
			checkPower(t, a, n)
		}
	}
	for _, s := range []string{"0", "1", "-1", "2", "-2", "1/2", "-2/3", "10/7"} {
		for _, im := range []string{"0", "1", "-1", "1/2", "-3/2"} {
			for _, n := range []int{7, 8, 31, 64, 100, -7, -64, -99} {
				checkPower(t, oracleOf(num(s, im)), n)
			}
		}
	}
}

// P3.3: exponents of 1024 and -1024, and one beyond; of 0, and below 0 at 0.
func TestExptEnds(t *testing.T) {
	greatest := new(big.Int).Sub(pow2(32*api.MaxWords), big.NewInt(1))
	all := []api.Num{Int(0), Int(1), Int(-1), Int(2), num("0", "1"), num("1", "1"), num("1/2", "0"), realNum(wholeRat(greatest))}
	for _, a := range all {
		for _, n := range []int{1025, -1025, 1 << 32, -1 << 32, math.MaxInt, math.MinInt} {
			got, e := Expt(a, n)
			check(t, "Expt too far", got, e, api.Num{}, api.ErrArg)
		}
		got, e := Expt(a, 0)
		check(t, "Expt to 0", got, e, Int(1), api.OK)
		got, e = Expt(a, 1)
		check(t, "Expt to 1", got, e, a, api.OK)
		checkPower(t, oracleOf(a), -1)
		checkPower(t, oracleOf(a), 1024)
		checkPower(t, oracleOf(a), -1024)
	}
	for _, n := range []int{-1, -2, -1024} {
		got, e := Expt(Int(0), n)
		check(t, "0 below 0", got, e, api.Num{}, api.ErrZero)
	}
	for _, a := range unsound() {
		for _, n := range []int{0, 1, -1, 1024, 1025, math.MinInt} {
			got, e := Expt(a, n)
			check(t, "Expt", got, e, api.Num{}, api.ErrForm)
		}
	}
}

// P3.3: powers of just MaxWords words, and of one more.
func TestExptLong(t *testing.T) {
	for _, c := range []struct {
		re, im string
		n      int
		err    api.Errno
	}{
		{"65535", "0", 1024, api.OK},
		{"65536", "0", 1024, api.ErrLarge},
		{"65536", "0", 1023, api.OK},
		{"-65535", "0", -1024, api.OK},
		{"65536", "0", -1024, api.ErrLarge},
		{"1/65535", "0", 1024, api.OK},
		{"1/65536", "0", 1024, api.ErrLarge},
		{"1/65536", "0", -1024, api.ErrLarge},
		{"1/65536", "0", -1023, api.OK},
		{"0", "65536", 1023, api.OK},
		{"0", "65536", 1024, api.ErrLarge},
		{"0", "-1/65536", 1024, api.ErrLarge},
		{"1", "1", 1024, api.OK},
		{"1", "1", -1024, api.OK},
		{"256", "255", 1024, api.OK},
		{"255/256", "1", 1024, api.OK},
	} {
		a := num(c.re, c.im)
		got, e := Expt(a, c.n)
		if e != c.err || e != api.OK && !equal(got, api.Num{}) {
			t.Errorf("Expt(%s) to %d: error %d; want %d", brief(a), c.n, e, c.err)
		}
		checkPower(t, oracleOf(a), c.n)
	}
}

// P3.3: a power on the way that is too long, though the answer would not be: one over 1048576 + i has a bottom twice as long as the number itself.
func TestExptLongOnTheWay(t *testing.T) {
	one := oracle{big.NewRat(1, 1), new(big.Rat)}
	b := oracleOf(num("1048576", "1"))
	a := one.over(b)
	for _, n := range []int{408, 409, 410, 600} {
		answer, ok := b.power(n)
		if !ok || answer.large() {
			t.Fatalf("the answer at %d is too long by itself", n)
		}
		got, e := Expt(a.num(), -n)
		if n <= 409 {
			check(t, "Expt below the end", got, e, answer.num(), api.OK)
			continue
		}
		check(t, "Expt beyond the end", got, e, api.Num{}, api.ErrLarge)
	}
}

// P3.3: powers that are too long while common divisors stand in them, and not without them. 1 + i to the power 1024 is 2 to the power 512, and to the power 1023 that over 1 + i.
func TestExptShortAgain(t *testing.T) {
	for _, c := range []struct {
		v   int64
		err api.Errno
	}{{46339, api.OK}, {46343, api.ErrLarge}} {
		part := big.NewRat(1, 2*c.v)
		a := complexNum(part, part)
		power := func(n int64) *big.Int {
			return new(big.Int).Mul(pow2(512), new(big.Int).Exp(big.NewInt(c.v), big.NewInt(n), nil))
		}
		got, e := Expt(a, 1024)
		check(t, "to 1024", got, e, realNum(frac(big.NewInt(1), power(1024))), c.err)
		got, e = Expt(a, -1024)
		check(t, "to -1024", got, e, realNum(wholeRat(power(1024))), c.err)
		last := frac(big.NewInt(1), power(1023))
		got, e = Expt(a, 1023)
		check(t, "to 1023", got, e, complexNum(last, new(big.Rat).Neg(last)), api.OK)
		half := wholeRat(new(big.Int).Rsh(power(1023), 1))
		got, e = Expt(a, -1023)
		check(t, "to -1023", got, e, complexNum(half, half), api.OK)
	}
}

// P3.3: a number whose parts have long bottoms without a common divisor.
func TestExptLongBottoms(t *testing.T) {
	for _, length := range []int{4000, 4096, 4097, 16000} {
		p, q := new(big.Int).Add(pow2(length), big.NewInt(1)), pow2(length-1)
		a := oracle{frac(big.NewInt(1), p), frac(big.NewInt(3), q)}
		for _, n := range []int{1, 2, 3} {
			checkPower(t, a, n)
			checkPower(t, a, -n)
		}
	}
}
