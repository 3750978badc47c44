package equal

import (
	"math/big"
	"slices"
	"testing"

	"sextant/api"
)

// rationals are whole numbers and fractions of both signs, on both sides of a word's end, by rising size. Among them are some whose words go the other way than they do.
func rationals() []*big.Rat {
	var out []*big.Rat
	for _, s := range []string{"0", "1/18446744073709551616", "1/4294967296", "1/4294967295", "1/3", "3/7", "1/2", "2/3", "5/7", "1", "4294967297/4294967296", "3/2", "2", "10", "4294967295", "4294967296", "18446744073709551615/2", "18446744073709551615", "18446744073709551616"} {
		out = append(out, rational(s))
	}
	return rising(withOpposites(out))
}

func withOpposites(some []*big.Rat) []*big.Rat {
	all := slices.Clone(some)
	for _, r := range some {
		if r.Sign() != 0 {
			all = append(all, new(big.Rat).Neg(r))
		}
	}
	return all
}

func rising(some []*big.Rat) []*big.Rat {
	slices.SortFunc(some, (*big.Rat).Cmp)
	return some
}

// P10.2: whole numbers and fractions, as numbers.
func TestRealNumbers(t *testing.T) {
	var data []api.Datum
	for _, r := range rationals() {
		data = append(data, number(r, new(big.Rat)))
	}
	riseAnywhere(t, data...)
}

// P10.2: numbers that differ in Im alone.
func TestImaginaryNumbers(t *testing.T) {
	for _, re := range []string{"0", "1", "-1/2"} {
		var data []api.Datum
		for _, im := range rationals() {
			data = append(data, number(rational(re), im))
		}
		riseAnywhere(t, data...)
	}
}

// P10.2: by Re, then Im, also where they go opposite ways.
func TestComplexNumbers(t *testing.T) {
	var some []*big.Rat
	for _, s := range []string{"-4294967296", "-2", "-3/2", "-1/3", "0", "1/3", "1/2", "2", "4294967295", "4294967296"} {
		some = append(some, rational(s))
	}
	var data []api.Datum
	for _, re := range some {
		for _, im := range some {
			data = append(data, number(re, im))
		}
	}
	riseAnywhere(t, data[40:60]...)
	rise(t, data...)
	compares(t, complexNumber(1, 100), complexNumber(2, -100), -1)
	compares(t, complexNumber(-1, -100), complexNumber(-2, 100), 1)
	compares(t, complexNumber(5, -1), complexNumber(5, 1), -1)
	compares(t, complexNumber(-1, 0), complexNumber(0, -1), -1)
}

// longOnes are of as many words as there may be, above, below, or on both sides of the line.
func longOnes() []*big.Rat {
	one := big.NewInt(1)
	power := pow2(32*mostWords - 1)
	ones := new(big.Int).Sub(pow2(32*mostWords), one)
	nearly := new(big.Int).Sub(ones, one)
	top := pow2(32 * (mostWords - 1))
	return withOpposites([]*big.Rat{
		new(big.Rat).SetInt(ones), new(big.Rat).SetInt(nearly), new(big.Rat).SetInt(power), new(big.Rat).SetInt(top),
		new(big.Rat).SetFrac(one, ones), new(big.Rat).SetFrac(one, nearly), new(big.Rat).SetFrac(one, power),
		new(big.Rat).SetFrac(ones, nearly), new(big.Rat).SetFrac(nearly, ones), new(big.Rat).SetFrac(ones, power), new(big.Rat).SetFrac(power, ones), new(big.Rat).SetInt64(1),
	})
}

// P10.2: numbers of as many words as there may be.
func TestLongNumbers(t *testing.T) {
	all := rising(longOnes())
	var reals, imaginary []api.Datum
	for i, r := range all {
		reals = append(reals, number(r, all[len(all)-1-i])) // Im goes the other way
		imaginary = append(imaginary, number(all[3], r))
	}
	rise(t, reals...)
	rise(t, imaginary...)
	rise(t, inside(reals[:4], func(d api.Datum) api.Datum { return list(vector(d), d) })...)
	if got := len(reals[0].Num.Re.Top); got != mostWords {
		t.Errorf("the test has laid %d words", got)
	}
}
