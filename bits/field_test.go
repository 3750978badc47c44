package bits

import (
	"math"
	"math/big"
	"math/rand"
	"testing"

	"sextant/api"
	"sextant/exact"
)

// fieldOf takes the bits one by one; those of a number below 0 are not those of -a - 1.
func fieldOf(a *big.Int, start, end int) *big.Int {
	turn := uint(0)
	if a.Sign() < 0 {
		a, turn = plus(neg(a), -1), 1
	}
	out := new(big.Int)
	for k := end - start - 1; k >= 0; k-- {
		out.SetBit(out, k, a.Bit(start+k)^turn)
	}
	return out
}

func checkField(t *testing.T, a *big.Int, start, end int) {
	t.Helper()
	got, e := Field(num(a), start, end)
	if start < 0 || end < start || end > api.MaxShift {
		checkError(t, "Field", got, e, api.ErrArg)
		return
	}
	checkValue(t, "Field of "+brief(a), got, e, fieldOf(a, start, end))
}

// P4.2: all fields of short numbers.
func TestShortFields(t *testing.T) {
	for a := -40; a <= 40; a++ {
		for start := range 9 {
			for end := start; end < 10; end++ {
				got, e := Field(exact.Int(a), start, end)
				checkValue(t, "Field", got, e, big.NewInt(int64(a>>start&(1<<(end-start)-1))))
			}
		}
	}
}

// P4.2: fields next to the ends of words, empty ones, and those that end at MaxShift, of numbers next to powers of 2.
func TestFields(t *testing.T) {
	places := []int{0, 1, 30, 31, 32, 33, 64, 100, api.MaxShift - 33, api.MaxShift - 32, api.MaxShift - 1, api.MaxShift}
	for _, a := range wholes() {
		for i, start := range places {
			for _, end := range places[i:] {
				checkField(t, a, start, end)
			}
		}
		top := min(a.BitLen(), api.MaxShift)
		checkField(t, a, top, api.MaxShift)
		checkField(t, a, max(top-1, 0), top)
		checkField(t, a, 0, top)
	}
}

// P4.2: fields that begin above the number's top are noughts, or below 0 ones.
func TestFieldsAboveTop(t *testing.T) {
	for _, c := range []struct {
		a          int
		start, end int
		want       *big.Int
	}{
		{5, 3, 64, new(big.Int)},
		{5, 1000, 2000, new(big.Int)},
		{5, 7, 7, new(big.Int)},
		{0, 0, api.MaxShift, new(big.Int)},
		{-1, 0, 0, new(big.Int)},
		{-1, api.MaxShift, api.MaxShift, new(big.Int)},
		{-1, 0, 32, big.NewInt(allBits)},
		{-1, 0, api.MaxShift, plus(pow2(api.MaxShift), -1)},
		{-8, 0, api.MaxShift, plus(pow2(api.MaxShift), -8)},
		{-8, 3, 67, plus(pow2(64), -1)},
		{-5, 1000, 1033, plus(pow2(33), -1)},
		{-5, api.MaxShift - 1, api.MaxShift, big.NewInt(1)},
	} {
		got, e := Field(exact.Int(c.a), c.start, c.end)
		checkValue(t, "Field", got, e, c.want)
	}
}

// P4.2: a start below 0, an end below the start, an end one beyond MaxShift.
func TestWrongFields(t *testing.T) {
	for _, a := range []api.Num{exact.Int(0), exact.Int(5), exact.Int(-1), num(plus(pow2(mostBits), -1))} {
		for _, c := range []struct{ start, end int }{
			{-1, 4},
			{-1, -1},
			{-5, -1},
			{math.MinInt, 3},
			{math.MinInt, math.MaxInt},
			{math.MinInt, math.MinInt},
			{3, 2},
			{1, 0},
			{5, -1},
			{5, math.MinInt},
			{0, api.MaxShift + 1},
			{api.MaxShift, api.MaxShift + 1},
			{api.MaxShift + 1, api.MaxShift + 1},
			{api.MaxShift + 1, api.MaxShift},
			{0, math.MaxInt},
			{math.MaxInt, math.MaxInt},
		} {
			got, e := Field(a, c.start, c.end)
			checkError(t, "Field", got, e, api.ErrArg)
		}
	}
}

// P4.2: fields of numbers of all lengths.
func TestSomeFields(t *testing.T) {
	r := rand.New(rand.NewSource(19))
	for a := range somePairs(23) {
		start := r.Intn(a.BitLen() + 40)
		checkField(t, a, start, start+r.Intn(100))
		checkField(t, a, start, r.Intn(api.MaxShift+1))
		checkField(t, a, r.Intn(40), start)
	}
}
