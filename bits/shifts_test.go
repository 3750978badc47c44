package bits

import (
	"math"
	"math/big"
	"math/rand"
	"strings"
	"testing"

	"sextant/api"
	"sextant/exact"
)

// scaled is the greatest whole number that is not above a times 2 to the power n, by a division that rounds down.
func scaled(a *big.Int, n int) *big.Int {
	if n >= 0 {
		return new(big.Int).Mul(a, pow2(n))
	}
	return new(big.Int).Div(a, pow2(-n))
}

func checkShift(t *testing.T, a *big.Int, n int) {
	t.Helper()
	got, e := Shift(num(a), n)
	if n < -api.MaxShift || n > api.MaxShift {
		checkError(t, "Shift", got, e, api.ErrArg)
		return
	}
	checkValue(t, "Shift of "+brief(a), got, e, scaled(a, n))
}

// shifts are those at the ends, and those next to a word's.
func shifts() []int {
	var out []int
	for _, n := range []int{0, 1, 2, 31, 32, 33, 64, 1000, mostBits - 33, mostBits - 32, mostBits - 2, mostBits - 1, api.MaxShift, api.MaxShift + 1, math.MaxInt} {
		out = append(out, n, -n)
	}
	return append(out, math.MinInt)
}

// P4.2: Shift of all numbers next to powers of 2, to the ends and one beyond; each also by just so much that it has MaxWords words, and one more.
func TestShift(t *testing.T) {
	for _, a := range wholes() {
		for _, n := range shifts() {
			checkShift(t, a, n)
		}
		room := mostBits - a.BitLen()
		checkShift(t, a, room)
		checkShift(t, a, room+1)
		checkShift(t, a, -a.BitLen())
		checkShift(t, a, -a.BitLen()+1)
	}
}

// P4.2: Shift of short numbers as the machine's own ints have it, below 0 away from 0.
func TestShortShifts(t *testing.T) {
	for a := -70; a <= 70; a++ {
		for n := range 10 {
			got, e := Shift(exact.Int(a), -n)
			checkValue(t, "Shift down", got, e, big.NewInt(int64(a>>n)))
			got, e = Shift(exact.Int(a), n)
			checkValue(t, "Shift up", got, e, big.NewInt(int64(a<<n)))
		}
	}
}

// P4.2: a number below 0 that is shifted down to nothing is -1, and one that leaves something is below what is left.
func TestShiftDownBelow0(t *testing.T) {
	greatest := plus(pow2(mostBits), -1)
	for _, c := range []struct {
		a    *big.Int
		n    int
		want int64
	}{
		{big.NewInt(-1), -1, -1},
		{big.NewInt(-1), -api.MaxShift, -1},
		{big.NewInt(-5), -3, -1},
		{big.NewInt(-8), -3, -1},
		{big.NewInt(-9), -3, -2},
		{big.NewInt(-8), -4, -1},
		{big.NewInt(-8), -2, -2},
		{neg(pow2(64)), -64, -1},
		{neg(plus(pow2(64), 1)), -64, -2},
		{neg(plus(pow2(64), -1)), -64, -1},
		{neg(greatest), -api.MaxShift, -1},
		{neg(greatest), -api.MaxShift + 1, -2},
		{neg(pow2(mostBits - 1)), -api.MaxShift + 1, -1},
		{greatest, -api.MaxShift, 0},
		{greatest, -api.MaxShift + 1, 1},
	} {
		got, e := Shift(num(c.a), c.n)
		checkValue(t, "Shift of "+brief(c.a), got, e, big.NewInt(c.want))
	}
}

// P4.2: shifts of 0, MaxShift and -MaxShift, and one beyond each.
func TestShiftEnds(t *testing.T) {
	got, e := Shift(exact.Int(0), api.MaxShift)
	checkValue(t, "Shift of 0", got, e, new(big.Int))
	for _, a := range []int{1, -1} {
		got, e = Shift(exact.Int(a), api.MaxShift)
		checkError(t, "Shift by MaxShift", got, e, api.ErrLarge)
		got, e = Shift(exact.Int(a), api.MaxShift-1)
		checkValue(t, "Shift by one less", got, e, new(big.Int).Mul(pow2(mostBits-1), big.NewInt(int64(a))))
	}
	for _, a := range []api.Num{exact.Int(0), exact.Int(1), exact.Int(-1), num(plus(pow2(mostBits), -1))} {
		for _, n := range []int{api.MaxShift + 1, -api.MaxShift - 1, math.MaxInt, math.MinInt} {
			got, e = Shift(a, n)
			checkError(t, "Shift beyond the end", got, e, api.ErrArg)
		}
	}
}

// P4.2: Shift of numbers of all lengths.
func TestSomeShifts(t *testing.T) {
	r := rand.New(rand.NewSource(7))
	for a := range somePairs(11) {
		checkShift(t, a, r.Intn(80)-40)
		checkShift(t, a, r.Intn(2*api.MaxShift+1)-api.MaxShift)
		checkShift(t, a, -r.Intn(a.BitLen()+2))
	}
}

// P3: Shift is the floor of the product with a power of 2.
func TestShiftIsProduct(t *testing.T) {
	for a := range somePairs(13) {
		for _, n := range []int{-1024, -33, -32, -5, -1, 0, 1, 31, 700} {
			power, _ := exact.Expt(exact.Int(2), n)
			product, e := exact.Mul(num(a), power)
			if e != api.OK {
				continue
			}
			want, _ := exact.Floor(product)
			if got, e := Shift(num(a), n); e != api.OK || !equal(got, want) {
				t.Errorf("Shift(%s, %d) is %s, error %d", brief(a), n, briefNum(got), e)
			}
		}
	}
}

// checkCounts holds Count and Length against a count of digits and the chapter's own range.
func checkCounts(t *testing.T, a *big.Int) {
	t.Helper()
	bits := a
	if a.Sign() < 0 {
		bits = plus(neg(a), -1)
	}
	want := strings.Count(bits.Text(2), "1")
	if a.Sign() < 0 {
		want = -want - 1
	}
	got, e := Count(num(a))
	checkInt(t, "Count("+brief(a)+")", got, e, want, api.OK)

	n, e := Length(num(a))
	inside := func(n int) bool { return a.Cmp(neg(pow2(n))) >= 0 && a.Cmp(pow2(n)) < 0 }
	if e != api.OK || n < 0 || !inside(n) || n > 0 && inside(n-1) {
		t.Errorf("Length(%s) is %d, error %d", brief(a), n, e)
	}
}

// P4.2: Count and Length of numbers next to powers of 2, and of all lengths.
func TestCounts(t *testing.T) {
	for _, a := range wholes() {
		checkCounts(t, a)
	}
	for a := range somePairs(17) {
		checkCounts(t, a)
	}
	for a := int64(-300); a <= 300; a++ {
		checkCounts(t, big.NewInt(a))
	}
}

// P4.2: Count and Length of numbers whose answers are known.
func TestKnownCounts(t *testing.T) {
	for _, c := range []struct {
		a             *big.Int
		count, length int
	}{
		{big.NewInt(0), 0, 0},
		{big.NewInt(-1), -1, 0},
		{big.NewInt(1), 1, 1},
		{big.NewInt(-2), -2, 1},
		{big.NewInt(2), 1, 2},
		{big.NewInt(-3), -2, 2},
		{big.NewInt(255), 8, 8},
		{big.NewInt(256), 1, 9},
		{big.NewInt(-256), -9, 8},
		{big.NewInt(-257), -2, 9},
		{pow2(32), 1, 33},
		{neg(pow2(32)), -33, 32},
		{neg(plus(pow2(32), 1)), -2, 33},
		{plus(pow2(mostBits), -1), mostBits, mostBits},
		{neg(plus(pow2(mostBits), -1)), -mostBits, mostBits},
		{pow2(mostBits - 1), 1, mostBits},
		{neg(pow2(mostBits - 1)), -mostBits, mostBits - 1},
	} {
		got, e := Count(num(c.a))
		checkInt(t, "Count("+brief(c.a)+")", got, e, c.count, api.OK)
		got, e = Length(num(c.a))
		checkInt(t, "Length("+brief(c.a)+")", got, e, c.length, api.OK)
	}
}

// P4.2: what is not sound is told first, then what is not whole, then a wrong shift or field.
func TestWrongNumbers(t *testing.T) {
	wrong := func(a api.Num, err api.Errno) {
		for _, n := range []int{0, 5, -5, api.MaxShift, api.MaxShift + 1, -api.MaxShift - 1} {
			got, e := Shift(a, n)
			checkError(t, "Shift", got, e, err)
			got, e = Field(a, n, n+3)
			checkError(t, "Field", got, e, err)
			got, e = Field(a, n, n-1)
			checkError(t, "Field", got, e, err)
		}
		n, e := Count(a)
		checkInt(t, "Count", n, e, 0, err)
		n, e = Length(a)
		checkInt(t, "Length", n, e, 0, err)
	}
	for _, a := range unsound() {
		wrong(a, api.ErrForm)
	}
	for _, a := range notWhole() {
		wrong(a, api.ErrType)
	}
}
