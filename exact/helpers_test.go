package exact

import (
	"math/big"
	"math/rand"
	"slices"
	"testing"

	"sextant/api"
)

const allBits = 0xffffffff

// oracle is a complex number by the library's own fractions, which these tests hold the package against.
type oracle struct{ re, im *big.Rat }

func bigInt(a []uint32) *big.Int {
	var bytes []byte
	for _, word := range slices.Backward(a) {
		bytes = append(bytes, byte(word>>24), byte(word>>16), byte(word>>8), byte(word))
	}
	return new(big.Int).SetBytes(bytes)
}

func bigRat(r api.Rat) *big.Rat {
	out := new(big.Rat).SetFrac(bigInt(r.Top), bigInt(r.Bot))
	if r.Neg {
		out.Neg(out)
	}
	return out
}

func oracleOf(a api.Num) oracle {
	return oracle{bigRat(a.Re), bigRat(a.Im)}
}

func wordsOf(n *big.Int) []uint32 {
	bytes := n.Bytes()
	var out []uint32
	for i := range bytes {
		if i%4 == 0 {
			out = append(out, 0)
		}
		out[i/4] |= uint32(bytes[len(bytes)-1-i]) << (8 * (i % 4))
	}
	return out
}

func ratOf(r *big.Rat) api.Rat {
	return api.Rat{Neg: r.Sign() < 0, Top: wordsOf(r.Num()), Bot: wordsOf(r.Denom())}
}

func (a oracle) num() api.Num {
	return api.Num{Re: ratOf(a.re), Im: ratOf(a.im)}
}

// large: has a part of it too many words?
func (a oracle) large() bool {
	limit := 32 * api.MaxWords
	return max(a.re.Num().BitLen(), a.re.Denom().BitLen(), a.im.Num().BitLen(), a.im.Denom().BitLen()) > limit
}

func (a oracle) plus(b oracle) oracle {
	return oracle{new(big.Rat).Add(a.re, b.re), new(big.Rat).Add(a.im, b.im)}
}

func (a oracle) minus(b oracle) oracle {
	return oracle{new(big.Rat).Sub(a.re, b.re), new(big.Rat).Sub(a.im, b.im)}
}

func (a oracle) times(b oracle) oracle {
	mul := func(x, y *big.Rat) *big.Rat { return new(big.Rat).Mul(x, y) }
	re := new(big.Rat).Sub(mul(a.re, b.re), mul(a.im, b.im))
	return oracle{re, new(big.Rat).Add(mul(a.re, b.im), mul(a.im, b.re))}
}

func (a oracle) over(b oracle) oracle {
	square := b.times(oracle{b.re, new(big.Rat).Neg(b.im)}).re
	p := a.times(oracle{b.re, new(big.Rat).Neg(b.im)})
	return oracle{new(big.Rat).Quo(p.re, square), new(big.Rat).Quo(p.im, square)}
}

func (a oracle) isZero() bool {
	return a.re.Sign() == 0 && a.im.Sign() == 0
}

// floor is the greatest whole number that is not above r: the library's Div rounds down where the bottom is above 0.
func floor(r *big.Rat) *big.Rat {
	return new(big.Rat).SetInt(new(big.Int).Div(r.Num(), r.Denom()))
}

// equal compares word by word.
func equal(a, b api.Num) bool {
	same := func(a, b api.Rat) bool {
		return a.Neg == b.Neg && slices.Equal(a.Top, b.Top) && slices.Equal(a.Bot, b.Bot)
	}
	return same(a.Re, b.Re) && same(a.Im, b.Im)
}

func brief(a api.Num) string {
	if len(a.Re.Bot) == 0 || len(a.Im.Bot) == 0 {
		return "nothing"
	}
	s := bigRat(a.Re).RatString() + ", " + bigRat(a.Im).RatString() + " i"
	if len(s) > 200 {
		s = s[:100] + ".." + s[len(s)-96:]
	}
	return s
}

// check: is it that number, or that error and nothing beside it?
func check(t *testing.T, what string, got api.Num, e api.Errno, want api.Num, err api.Errno) {
	t.Helper()
	if err != api.OK {
		want = api.Num{}
	}
	if e != err || !equal(got, want) {
		t.Errorf("%s: %s, error %d; want %s, error %d", what, brief(got), e, brief(want), err)
	}
}

// checkValue: is it the number that the oracle is, or ErrLarge, if that is too long?
func checkValue(t *testing.T, what string, got api.Num, e api.Errno, want oracle) {
	t.Helper()
	if want.large() {
		check(t, what, got, e, api.Num{}, api.ErrLarge)
		return
	}
	check(t, what, got, e, want.num(), api.OK)
}

// num is the number whose parts are written so, by the library's own reading.
func num(re, im string) api.Num {
	x, ok := new(big.Rat).SetString(re)
	y, good := new(big.Rat).SetString(im)
	if !ok || !good {
		panic(re + " or " + im)
	}
	return oracle{x, y}.num()
}

func list(n int, word uint32) []uint32 {
	return slices.Repeat([]uint32{word}, n)
}

// pow2 is 2 to the power n.
func pow2(n int) *big.Int {
	return new(big.Int).Lsh(big.NewInt(1), uint(n))
}

// whole numbers and fractions of big ones.
func wholeRat(n *big.Int) *big.Rat       { return new(big.Rat).SetInt(n) }
func frac(top, bot *big.Int) *big.Rat    { return new(big.Rat).SetFrac(top, bot) }
func realNum(r *big.Rat) api.Num         { return oracle{r, new(big.Rat)}.num() }
func imagNum(r *big.Rat) api.Num         { return oracle{new(big.Rat), r}.num() }
func complexNum(re, im *big.Rat) api.Num { return oracle{re, im}.num() }

// noFractions are not sound.
func noFractions() []api.Rat {
	one := []uint32{1}
	long := list(api.MaxWords+1, 1)
	return []api.Rat{
		{},
		{Neg: true},
		{Top: one},
		{Top: one, Bot: []uint32{}},
		{Top: one, Bot: []uint32{0}},
		{Bot: []uint32{0}},
		{Neg: true, Bot: one},
		{Neg: true, Top: []uint32{}, Bot: one},
		{Bot: []uint32{2}},
		{Bot: []uint32{0, 1}},
		{Bot: list(api.MaxWords, allBits)},
		{Top: []uint32{0}, Bot: one},
		{Top: []uint32{1, 0}, Bot: one},
		{Top: []uint32{3, 0}, Bot: []uint32{2}},
		{Top: []uint32{3}, Bot: []uint32{2, 0}},
		{Top: []uint32{2}, Bot: []uint32{2}},
		{Top: []uint32{2}, Bot: []uint32{4}},
		{Neg: true, Top: []uint32{6}, Bot: []uint32{3}},
		{Top: list(api.MaxWords, allBits), Bot: list(api.MaxWords, allBits)},
		{Top: list(api.MaxWords, allBits), Bot: []uint32{allBits}},
		{Top: long, Bot: one},
		{Top: one, Bot: long},
		{Top: list(api.MaxWords+1, 0), Bot: one},
		{Top: list(4*api.MaxWords, allBits), Bot: one},
	}
}

// unsound are numbers of which a part is no fraction, or both are.
func unsound() []api.Num {
	good := []api.Rat{{Bot: []uint32{1}}, {Neg: true, Top: []uint32{5}, Bot: []uint32{3}}}
	var out []api.Num
	for _, bad := range noFractions() {
		for _, r := range good {
			out = append(out, api.Num{Re: bad, Im: r}, api.Num{Re: r, Im: bad})
		}
		out = append(out, api.Num{Re: bad, Im: bad})
	}
	return out
}

// wrongPairs has a number that is not sound on the left, on the right, and on both sides.
func wrongPairs(yield func(a, b api.Num) bool) {
	bads := unsound()
	for i, bad := range bads {
		for _, good := range []api.Num{num("0", "0"), num("1", "0"), num("-2/3", "0"), num("1/2", "-3")} {
			if !yield(bad, good) || !yield(good, bad) {
				return
			}
		}
		if !yield(bad, bads[(i*7+3)%len(bads)]) {
			return
		}
	}
}

// reals are numbers on both sides of 0 and of each other, short ones, and some at the ends of a word and of all words.
func reals() []*big.Rat {
	var out []*big.Rat
	for _, s := range []string{"0", "1", "2", "3", "7", "10", "1/2", "1/3", "2/3", "3/2", "7/2", "22/7", "355/113", "4294967295", "4294967296", "1/4294967296", "4294967297/4294967296", "18446744073709551615/2"} {
		r, _ := new(big.Rat).SetString(s)
		out = append(out, r)
	}
	greatest := new(big.Int).Sub(pow2(32*api.MaxWords), big.NewInt(1))
	out = append(out, wholeRat(greatest), frac(big.NewInt(1), greatest), frac(greatest, new(big.Int).Sub(greatest, big.NewInt(1))))
	for _, r := range out[1:] {
		out = append(out, new(big.Rat).Neg(r))
	}
	return out
}

// someRat is a fraction whose parts have up to so many words.
func someRat(r *rand.Rand, words int) *big.Rat {
	top := new(big.Int).Rand(r, pow2(1+r.Intn(32*words)))
	bot := new(big.Int).Rand(r, pow2(1+r.Intn(32*words)))
	if r.Intn(3) == 0 {
		bot.SetInt64(int64(r.Intn(3)))
	}
	bot.Add(bot, big.NewInt(1))
	if bot.BitLen() > 32*words {
		bot.SetInt64(1)
	}
	if r.Intn(2) == 0 {
		top.Neg(top)
	}
	return frac(top, bot)
}

// numbers are complex numbers of every kind.
func numbers() []oracle {
	zero := new(big.Rat)
	var out []oracle
	for i, x := range reals() {
		out = append(out, oracle{x, zero}, oracle{zero, x})
		all := reals()
		out = append(out, oracle{x, all[(i*5+3)%len(all)]}, oracle{x, x})
	}
	r := rand.New(rand.NewSource(5))
	for _, words := range []int{1, 1, 1, 2, 2, 5, 40} {
		for range 4 {
			out = append(out, oracle{someRat(r, words), someRat(r, words)}, oracle{someRat(r, words), zero})
		}
	}
	return out
}
