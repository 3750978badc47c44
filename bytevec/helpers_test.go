package bytevec

import (
	"bytes"
	"math/big"
	"math/rand"
	"slices"
	"strconv"
	"testing"

	"sextant/api"
)

const (
	allBits = 0xffffffff
	most    = 64
)

// form is how numbers stand in bytes.
type form struct {
	size        int
	big, signed bool
}

func (f form) String() string {
	s := "size " + strconv.Itoa(f.size)
	if f.big {
		s += ", big"
	}
	if f.signed {
		s += ", signed"
	}
	return s
}

// forms are the four ways of each of the sizes.
func forms(sizes ...int) []form {
	var out []form
	for _, size := range sizes {
		for _, order := range []bool{true, false} {
			for _, signed := range []bool{true, false} {
				out = append(out, form{size, order, signed})
			}
		}
	}
	return out
}

func allSizes() []int {
	var out []int
	for size := 1; size <= most; size++ {
		out = append(out, size)
	}
	return out
}

// someSizes are at the ends and next to the ends of words.
func someSizes() []int {
	return []int{1, 2, 3, 4, 5, 7, 8, 9, 16, 31, 32, 33, 63, 64}
}

func wrongSizes() []int {
	return []int{0, -1, 65, 66, -64, 128, 1 << 32, 1<<32 + 1, maxInt, minInt, minInt + 1}
}

// The ends of an int.
const (
	maxInt = 1<<63 - 1
	minInt = -1 << 63
)

func wordsOf(n *big.Int) []uint32 {
	list := n.Bytes()
	var out []uint32
	for i := range list {
		if i%4 == 0 {
			out = append(out, 0)
		}
		out[i/4] |= uint32(list[len(list)-1-i]) << (8 * (i % 4))
	}
	return out
}

func ratOf(r *big.Rat) api.Rat {
	return api.Rat{Neg: r.Sign() < 0, Top: wordsOf(r.Num()), Bot: wordsOf(r.Denom())}
}

// num is the whole number n.
func num(n *big.Int) api.Num {
	return api.Num{Re: ratOf(new(big.Rat).SetInt(n)), Im: ratOf(new(big.Rat))}
}

// complexNum is the number whose parts are written so.
func complexNum(re, im string) api.Num {
	x, ok := new(big.Rat).SetString(re)
	y, good := new(big.Rat).SetString(im)
	if !ok || !good {
		panic(re + " or " + im)
	}
	return api.Num{Re: ratOf(x), Im: ratOf(y)}
}

// pow2 is 2 to the power n.
func pow2(n int) *big.Int {
	return new(big.Int).Lsh(big.NewInt(1), uint(n))
}

func plus(a *big.Int, n int64) *big.Int {
	return new(big.Int).Add(a, big.NewInt(n))
}

func neg(a *big.Int) *big.Int {
	return new(big.Int).Neg(a)
}

// least and beyond are the ends of the numbers that a form has: from least to below beyond.
func (f form) least() *big.Int {
	if f.signed {
		return neg(pow2(8*f.size - 1))
	}
	return new(big.Int)
}

func (f form) beyond() *big.Int {
	if f.signed {
		return pow2(8*f.size - 1)
	}
	return pow2(8 * f.size)
}

func (f form) has(n *big.Int) bool {
	return n.Cmp(f.least()) >= 0 && n.Cmp(f.beyond()) < 0
}

// numberOf is the number of bytes by the library's own arithmetic, which these tests hold the package against.
func (f form) numberOf(place []byte) *big.Int {
	place = slices.Clone(place)
	if !f.big {
		slices.Reverse(place)
	}
	n := new(big.Int).SetBytes(place)
	if f.signed && place[0]&0x80 != 0 {
		n.Sub(n, pow2(8*f.size))
	}
	return n
}

// bytesOf are the bytes of a number that the form has.
func (f form) bytesOf(n *big.Int) []byte {
	if n.Sign() < 0 {
		n = new(big.Int).Add(n, pow2(8*f.size))
	}
	out := n.FillBytes(make([]byte, f.size))
	if !f.big {
		slices.Reverse(out)
	}
	return out
}

// near are numbers at the ends of what the form has, just in and just out, and next to 0.
func (f form) near() []*big.Int {
	var out []*big.Int
	for d := int64(-2); d <= 2; d++ {
		out = append(out, plus(f.least(), d), plus(f.beyond(), d), big.NewInt(d), plus(neg(f.beyond()), d))
		out = append(out, plus(pow2(8*f.size), d), plus(pow2(8*f.size-1), d), plus(neg(pow2(8*f.size)), d), plus(neg(pow2(8*f.size-1)), d))
	}
	greatest := plus(pow2(32*api.MaxWords), -1)
	return append(out, greatest, neg(greatest), pow2(8*most), neg(pow2(8*most)))
}

// equal compares word by word.
func equal(a, b api.Num) bool {
	same := func(a, b api.Rat) bool {
		return a.Neg == b.Neg && slices.Equal(a.Top, b.Top) && slices.Equal(a.Bot, b.Bot)
	}
	return same(a.Re, b.Re) && same(a.Im, b.Im)
}

func shorter(s string) string {
	if len(s) > 80 {
		return s[:40] + ".." + s[len(s)-38:]
	}
	return s
}

func brief(n *big.Int) string {
	return shorter(n.Text(16))
}

func checkNum(t *testing.T, what string, got api.Num, e api.Errno, want *big.Int) {
	t.Helper()
	if e != api.OK || !equal(got, num(want)) {
		t.Errorf("%s: %v, error %d; want %s", what, got, e, brief(want))
	}
}

// checkNumError: is it that error, and nothing beside it?
func checkNumError(t *testing.T, what string, got api.Num, e, err api.Errno) {
	t.Helper()
	if e != err || !equal(got, api.Num{}) {
		t.Errorf("%s: %v, error %d; want error %d", what, got, e, err)
	}
}

// checkBytes: are they those bytes, or is it that error and no bytes?
func checkBytes(t *testing.T, what string, got []byte, e api.Errno, want []byte, err api.Errno) {
	t.Helper()
	if e != err || !bytes.Equal(got, want) {
		t.Errorf("%s: %d bytes % .40x, error %d; want % .40x, error %d", what, len(got), got, e, want, err)
	}
}

func list(n int, word uint32) []uint32 {
	return slices.Repeat([]uint32{word}, n)
}

// noFractions are not sound.
func noFractions() []api.Rat {
	one := []uint32{1}
	return []api.Rat{
		{},
		{Neg: true},
		{Top: one},
		{Top: one, Bot: []uint32{0}},
		{Bot: []uint32{2}},
		{Neg: true, Bot: one},
		{Neg: true, Top: []uint32{}, Bot: one},
		{Top: []uint32{0}, Bot: one},
		{Top: []uint32{5, 0}, Bot: one},
		{Neg: true, Top: []uint32{5, 0}, Bot: one},
		{Top: []uint32{5}, Bot: []uint32{1, 0}},
		{Top: []uint32{4}, Bot: []uint32{2}},
		{Top: list(api.MaxWords, allBits), Bot: list(api.MaxWords, allBits)},
		{Top: list(api.MaxWords+1, 1), Bot: one},
		{Neg: true, Top: list(api.MaxWords+1, allBits), Bot: one},
		{Top: one, Bot: list(api.MaxWords+1, 1)},
	}
}

// unsound are numbers of which a part is no fraction, or both are.
func unsound() []api.Num {
	good := []api.Rat{{Bot: []uint32{1}}, {Neg: true, Top: []uint32{5}, Bot: []uint32{1}}, {Top: []uint32{5}, Bot: []uint32{3}}}
	var out []api.Num
	for _, bad := range noFractions() {
		for _, r := range good {
			out = append(out, api.Num{Re: bad, Im: r}, api.Num{Re: r, Im: bad})
		}
		out = append(out, api.Num{Re: bad, Im: bad})
	}
	return out
}

// notWhole are numbers that are sound and not whole.
func notWhole() []api.Num {
	one := []uint32{1}
	full := list(api.MaxWords, allBits)
	out := []api.Num{
		{Re: api.Rat{Top: one, Bot: full}, Im: api.Rat{Bot: one}},
		{Re: api.Rat{Neg: true, Top: full, Bot: []uint32{2}}, Im: api.Rat{Bot: one}},
		{Re: api.Rat{Top: full, Bot: one}, Im: api.Rat{Top: full, Bot: one}},
	}
	for _, re := range []string{"1/2", "-1/2", "7/3", "-18446744073709551617/2"} {
		out = append(out, complexNum(re, "0"), complexNum(re, "1"))
	}
	for _, im := range []string{"1", "-1", "1/2", "18446744073709551616"} {
		out = append(out, complexNum("0", im), complexNum("-5", im))
	}
	return out
}

// someBytes are so many, often at their ends.
func someBytes(r *rand.Rand, n int) []byte {
	ends := []byte{0, 1, 0x7f, 0x80, 0xfe, 0xff}
	out := make([]byte, n)
	odd := r.Intn(3)
	for i := range out {
		out[i] = ends[r.Intn(len(ends))]
		if r.Intn(3) < odd {
			out[i] = byte(r.Intn(256))
		}
	}
	return out
}

// wrongPlaces are places at which n bytes do not all lie in so many.
func wrongPlaces(length, n int) []int {
	return []int{-1, -n, minInt, minInt + 1, length - n + 1, length, length + 1, maxInt - n, maxInt - n + 1, maxInt - 1, maxInt}
}
