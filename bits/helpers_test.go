package bits

import (
	"iter"
	"math/big"
	"math/rand"
	"slices"
	"testing"

	"sextant/api"
)

const (
	allBits  = 0xffffffff
	mostBits = 32 * api.MaxWords
)

// bigInt is a natural number by the library's own arithmetic, which these tests hold the package against.
func bigInt(a []uint32) *big.Int {
	var bytes []byte
	for _, word := range slices.Backward(a) {
		bytes = append(bytes, byte(word>>24), byte(word>>16), byte(word>>8), byte(word))
	}
	return new(big.Int).SetBytes(bytes)
}

func wordsOf(n *big.Int) []uint32 {
	bytes := n.Bytes()
	var out []uint32
	for i := range bytes {
		if i%4 == 0 {
			out = append(out, 0)
		}
		out[i/4] |= uint32(bytes[len(bytes)-1-i]) << (8 * (i % 4))
	}
	return out
}

func ratOf(r *big.Rat) api.Rat {
	return api.Rat{Neg: r.Sign() < 0, Top: wordsOf(r.Num()), Bot: wordsOf(r.Denom())}
}

// num is the whole number n.
func num(n *big.Int) api.Num {
	return api.Num{Re: ratOf(new(big.Rat).SetInt(n)), Im: ratOf(new(big.Rat))}
}

// complexNum is the number whose parts are written so.
func complexNum(re, im string) api.Num {
	x, ok := new(big.Rat).SetString(re)
	y, good := new(big.Rat).SetString(im)
	if !ok || !good {
		panic(re + " or " + im)
	}
	return api.Num{Re: ratOf(x), Im: ratOf(y)}
}

// pow2 is 2 to the power n.
func pow2(n int) *big.Int {
	return new(big.Int).Lsh(big.NewInt(1), uint(n))
}

func plus(a *big.Int, n int64) *big.Int {
	return new(big.Int).Add(a, big.NewInt(n))
}

func neg(a *big.Int) *big.Int {
	return new(big.Int).Neg(a)
}

// equal compares word by word.
func equal(a, b api.Num) bool {
	same := func(a, b api.Rat) bool {
		return a.Neg == b.Neg && slices.Equal(a.Top, b.Top) && slices.Equal(a.Bot, b.Bot)
	}
	return same(a.Re, b.Re) && same(a.Im, b.Im)
}

func shorter(s string) string {
	if len(s) > 80 {
		return s[:40] + ".." + s[len(s)-38:]
	}
	return s
}

func brief(n *big.Int) string {
	return shorter(n.Text(16))
}

func briefNum(a api.Num) string {
	if len(a.Re.Bot) == 0 {
		return "nothing"
	}
	s := brief(bigInt(a.Re.Top)) + "/" + brief(bigInt(a.Re.Bot))
	if a.Re.Neg {
		s = "-" + s
	}
	if len(a.Im.Top) > 0 {
		s += " and an imaginary part"
	}
	return s
}

// checkError: is it that error, and nothing beside it?
func checkError(t *testing.T, what string, got api.Num, e, err api.Errno) {
	t.Helper()
	if e != err || !equal(got, api.Num{}) {
		t.Errorf("%s: %s, error %d; want error %d", what, briefNum(got), e, err)
	}
}

// checkValue: is it that whole number, or ErrLarge, if that is too long?
func checkValue(t *testing.T, what string, got api.Num, e api.Errno, want *big.Int) {
	t.Helper()
	if want.BitLen() > mostBits {
		checkError(t, what, got, e, api.ErrLarge)
		return
	}
	if e != api.OK || !equal(got, num(want)) {
		t.Errorf("%s: %s, error %d; want %s", what, briefNum(got), e, brief(want))
	}
}

// checkInt: is it that int, or that error and 0?
func checkInt(t *testing.T, what string, got int, e api.Errno, want int, err api.Errno) {
	t.Helper()
	if got != want || e != err {
		t.Errorf("%s: %d, error %d; want %d, error %d", what, got, e, want, err)
	}
}

func list(n int, word uint32) []uint32 {
	return slices.Repeat([]uint32{word}, n)
}

// noFractions are not sound.
func noFractions() []api.Rat {
	one := []uint32{1}
	return []api.Rat{
		{},
		{Neg: true},
		{Top: one},
		{Top: one, Bot: []uint32{0}},
		{Bot: []uint32{2}},
		{Neg: true, Bot: one},
		{Neg: true, Top: []uint32{}, Bot: one},
		{Top: []uint32{0}, Bot: one},
		{Neg: true, Top: []uint32{0}, Bot: one},
		{Top: []uint32{5, 0}, Bot: one},
		{Neg: true, Top: []uint32{5, 0}, Bot: one},
		{Top: []uint32{5}, Bot: []uint32{1, 0}},
		{Top: []uint32{4}, Bot: []uint32{2}},
		{Top: list(api.MaxWords, allBits), Bot: list(api.MaxWords, allBits)},
		{Top: list(api.MaxWords+1, 1), Bot: one},
		{Neg: true, Top: list(api.MaxWords+1, allBits), Bot: one},
		{Top: list(4*api.MaxWords, allBits), Bot: one},
		{Top: one, Bot: list(api.MaxWords+1, 1)},
	}
}

// unsound are numbers of which a part is no fraction, or both are.
func unsound() []api.Num {
	good := []api.Rat{{Bot: []uint32{1}}, {Neg: true, Top: []uint32{5}, Bot: []uint32{1}}, {Top: []uint32{5}, Bot: []uint32{3}}}
	var out []api.Num
	for _, bad := range noFractions() {
		for _, r := range good {
			out = append(out, api.Num{Re: bad, Im: r}, api.Num{Re: r, Im: bad})
		}
		out = append(out, api.Num{Re: bad, Im: bad})
	}
	return out
}

// notWhole are numbers that are sound and not whole.
func notWhole() []api.Num {
	one := []uint32{1}
	full := list(api.MaxWords, allBits)
	out := []api.Num{
		{Re: api.Rat{Top: one, Bot: full}, Im: api.Rat{Bot: one}},
		{Re: api.Rat{Neg: true, Top: full, Bot: []uint32{2}}, Im: api.Rat{Bot: one}},
		{Re: api.Rat{Top: full, Bot: one}, Im: api.Rat{Top: full, Bot: one}},
	}
	for _, re := range []string{"1/2", "-1/2", "7/3", "-18446744073709551617/2"} {
		out = append(out, complexNum(re, "0"), complexNum(re, "1"))
	}
	for _, im := range []string{"1", "-1", "1/2", "18446744073709551616"} {
		out = append(out, complexNum("0", im), complexNum("-5", im))
	}
	return out
}

// wholes are 0, numbers next to powers of 2 on both sides of 0, up to all words, and rows of bits of some patterns.
func wholes() []*big.Int {
	out := []*big.Int{new(big.Int)}
	add := func(n *big.Int) {
		if n.Sign() > 0 && n.BitLen() <= mostBits {
			out = append(out, n, neg(n))
		}
	}
	for _, k := range []int{0, 1, 2, 3, 8, 31, 32, 33, 63, 64, 65, 96, 1024, mostBits - 33, mostBits - 32, mostBits - 31, mostBits - 1, mostBits} {
		add(plus(pow2(k), -1))
		add(pow2(k))
		add(plus(pow2(k), 1))
	}
	for _, words := range [][]uint32{{0x55555555}, {0xaaaaaaaa}, {0, 5}, {allBits, 0, 7}, {0, allBits, 1 << 31}, {0, 0, 0, 1}, list(api.MaxWords, 0x80000001), list(api.MaxWords-1, 0xdeadbeef), append(list(api.MaxWords-1, 0), 0xf0f0f0f0)} {
		add(bigInt(words))
	}
	return out
}

// some is a whole number of up to so many words, of either sign, whose words are often at their ends.
func some(r *rand.Rand, words int) *big.Int {
	ends := []uint32{0, 1, 1 << 31, 1<<31 - 1, allBits, allBits - 1}
	a := make([]uint32, r.Intn(words+1))
	odd := r.Intn(3)
	for k := range a {
		a[k] = ends[r.Intn(len(ends))]
		if r.Intn(3) < odd {
			a[k] = r.Uint32()
		}
	}
	if r.Intn(2) == 0 {
		return neg(bigInt(a))
	}
	return bigInt(a)
}

// somePairs are pairs of numbers of all lengths and signs.
func somePairs(seed int64) iter.Seq2[*big.Int, *big.Int] {
	return func(yield func(a, b *big.Int) bool) {
		r := rand.New(rand.NewSource(seed))
		for _, c := range []struct{ count, a, b int }{{1000, 1, 1}, {1000, 3, 3}, {300, 8, 2}, {300, 2, 30}, {100, api.MaxWords, api.MaxWords}, {50, api.MaxWords, 1}} {
			for range c.count {
				if !yield(some(r, c.a), some(r, c.b)) {
					return
				}
			}
		}
	}
}
