package nat

import (
	"math"
	"math/big"
	"math/rand"
	"slices"
	"testing"

	"sextant/api"
)

// The chapter's examples.
func TestExamples(t *testing.T) {
	a, e := Add([]uint32{4294967295}, []uint32{1})
	check(t, "Add", a, e, []uint32{0, 1}, api.OK)
	a, e = Sub([]uint32{0, 1}, []uint32{1})
	check(t, "Sub", a, e, []uint32{4294967295}, api.OK)
	a, e = Sub([]uint32{1}, []uint32{2})
	check(t, "Sub", a, e, nil, api.ErrArg)
	q, r, e := Div([]uint32{7}, []uint32{2})
	check(t, "Div", slices.Concat(q, r), e, []uint32{3, 1}, api.OK)
	a, e = Gcd([]uint32{12}, []uint32{18})
	check(t, "Gcd", a, e, []uint32{6}, api.OK)
	s, r, e := Root([]uint32{10})
	check(t, "Root", slices.Concat(s, r), e, []uint32{3, 1}, api.OK)
	a, e = Shift([]uint32{5}, -1)
	check(t, "Shift", a, e, []uint32{2}, api.OK)
	a, e = Shift([]uint32{1}, 32)
	check(t, "Shift", a, e, []uint32{0, 1}, api.OK)
	a, e = Add([]uint32{0}, []uint32{})
	check(t, "Add", a, e, nil, api.ErrForm)
}

// P2.2: Add.
func TestAdd(t *testing.T) {
	for a, b := range pairs {
		want, err := expect(new(big.Int).Add(bigOf(a), bigOf(b)))
		got, e := Add(a, b)
		check(t, "Add("+brief(a)+", "+brief(b)+")", got, e, want, err)
	}
	full := list(api.MaxWords, allBits)
	got, e := Add(full, nil)
	check(t, "all bits and 0", got, e, full, api.OK)
	got, e = Add([]uint32{1}, full)
	check(t, "all bits and 1", got, e, nil, api.ErrLarge)
	got, e = Add([]uint32{1}, list(100, allBits))
	check(t, "a carry over 100 words", got, e, power(100), api.OK)
}

// P2.2: Sub.
func TestSub(t *testing.T) {
	for a, b := range pairs {
		what := "Sub(" + brief(a) + ", " + brief(b) + ")"
		got, e := Sub(a, b)
		n := new(big.Int).Sub(bigOf(a), bigOf(b))
		if n.Sign() < 0 {
			check(t, what, got, e, nil, api.ErrArg)
			continue
		}
		check(t, what, got, e, wordsOf(n), api.OK)
	}
	got, e := Sub(power(100), []uint32{1})
	check(t, "a borrow over 100 words", got, e, list(100, allBits), api.OK)
	got, e = Sub(nil, []uint32{1})
	check(t, "0 - 1", got, e, nil, api.ErrArg)
}

// P2.2: Mul.
func TestMul(t *testing.T) {
	for a, b := range pairs {
		want, err := expect(new(big.Int).Mul(bigOf(a), bigOf(b)))
		got, e := Mul(a, b)
		check(t, "Mul("+brief(a)+", "+brief(b)+")", got, e, want, err)
	}
	full := list(api.MaxWords, allBits)
	got, e := Mul(full, []uint32{1})
	check(t, "all bits times 1", got, e, full, api.OK)
	got, e = Mul(full, []uint32{2})
	check(t, "all bits times 2", got, e, nil, api.ErrLarge)
	got, e = Mul(power(256), power(255))
	check(t, "the greatest power of a word", got, e, power(511), api.OK)
	got, e = Mul(power(256), power(256))
	check(t, "one word too long", got, e, nil, api.ErrLarge)
	got, e = Mul(nil, full)
	check(t, "0 times all bits", got, e, nil, api.OK)
}

// P2.2: Div.
func TestDiv(t *testing.T) {
	for a, b := range pairs {
		what := "Div(" + brief(a) + ", " + brief(b) + ")"
		q, r, e := Div(a, b)
		if len(b) == 0 {
			check(t, what+" over 0", append(q, r...), e, nil, api.ErrZero)
			continue
		}
		n, m := new(big.Int).QuoRem(bigOf(a), bigOf(b), new(big.Int))
		check(t, what, q, e, wordsOf(n), api.OK)
		check(t, what+" left", r, e, wordsOf(m), api.OK)
	}
	q, r, e := Div(nil, nil)
	check(t, "0 over 0", append(q, r...), e, nil, api.ErrZero)
}

// P2.2: Div, where the digit that the top words tell is one too many, at first or at last.
func TestDivWrongGuess(t *testing.T) {
	tops := []uint32{0, 1, 1<<31 - 1, 1 << 31, 1<<31 + 1, allBits - 1, allBits}
	var lists [][]uint32
	for _, a := range tops {
		for _, b := range tops {
			for _, c := range tops {
				lists = append(lists, wordsOf(bigOf([]uint32{a, b, c})))
			}
		}
	}
	for _, b := range lists {
		if len(b) == 0 {
			continue
		}
		for _, high := range lists {
			a := wordsOf(bigOf(append([]uint32{0, 3, allBits}, high...)))
			q, r, e := Div(a, b)
			n, m := new(big.Int).QuoRem(bigOf(a), bigOf(b), new(big.Int))
			what := "Div(" + brief(a) + ", " + brief(b) + ")"
			check(t, what, q, e, wordsOf(n), api.OK)
			check(t, what+" left", r, e, wordsOf(m), api.OK)
		}
	}
}

// P2.2: Gcd.
func TestGcd(t *testing.T) {
	for a, b := range pairs {
		got, e := Gcd(a, b)
		check(t, "Gcd("+brief(a)+", "+brief(b)+")", got, e, wordsOf(new(big.Int).GCD(nil, nil, bigOf(a), bigOf(b))), api.OK)
	}
	full := list(api.MaxWords, allBits)
	for _, c := range []struct{ a, b, want []uint32 }{
		{nil, nil, nil},
		{nil, full, full},
		{full, nil, full},
		{full, full, full},
		{full, list(256, allBits), list(256, allBits)},
		{full, list(192, allBits), list(64, allBits)},
		{power(511), append(power(400), 1<<31), power(400)},
	} {
		got, e := Gcd(c.a, c.b)
		check(t, "Gcd("+brief(c.a)+", "+brief(c.b)+")", got, e, c.want, api.OK)
	}
}

// P2.2: Gcd of numbers with a common divisor, whose quotients all are small, or great, or of both kinds.
func TestGcdOfQuotients(t *testing.T) {
	r := rand.New(rand.NewSource(3))
	for i, common := range some(120, 20) {
		if len(common) == 0 {
			continue
		}
		a, b := bigOf(common), new(big.Int)
		length := 64 + r.Intn(32*api.MaxWords-64-a.BitLen())
		for {
			q := big.NewInt(1)
			if r.Intn(10) < i%10 {
				q = new(big.Int).SetUint64(r.Uint64() >> r.Intn(64))
			}
			next := new(big.Int).Add(b, q.Mul(q, a))
			if next.BitLen() > length {
				break
			}
			a, b = next, a
		}
		got, e := Gcd(wordsOf(a), wordsOf(b))
		check(t, "Gcd of multiples", got, e, wordsOf(new(big.Int).GCD(nil, nil, a, b)), api.OK)
		got, e = Gcd(wordsOf(b), wordsOf(a))
		check(t, "Gcd the other way round", got, e, wordsOf(new(big.Int).GCD(nil, nil, a, b)), api.OK)
	}
}

// P2.2: Root.
func TestRoot(t *testing.T) {
	for n := range uint64(5000) {
		checkRoot(t, Of(n))
	}
	for _, a := range append(edges(), some(200, 60)...) {
		checkRoot(t, a)
	}
	for _, s := range append(edges(), some(100, 256)...) {
		square := new(big.Int).Mul(bigOf(s), bigOf(s))
		for _, by := range []int64{-2, -1, 0, 1, 2} {
			next := new(big.Int).Add(square, big.NewInt(by))
			if w, e := expect(next); next.Sign() >= 0 && e == api.OK {
				checkRoot(t, w)
			}
		}
	}
}

func checkRoot(t *testing.T, a []uint32) {
	t.Helper()
	want := new(big.Int).Sqrt(bigOf(a))
	left := new(big.Int).Sub(bigOf(a), new(big.Int).Mul(want, want))
	s, r, e := Root(a)
	check(t, "Root("+brief(a)+")", s, e, wordsOf(want), api.OK)
	check(t, "Root("+brief(a)+") left", r, e, wordsOf(left), api.OK)
}

// P2.2: Shift.
func TestShift(t *testing.T) {
	by := []int{0, 1, 2, 31, 32, 33, 63, 64, 65, 100, 8191, 8192, 16351, 16352, 16353, api.MaxShift - 1, api.MaxShift}
	for _, a := range append(edges(), some(60, 100)...) {
		for _, n := range by {
			want, err := expect(new(big.Int).Lsh(bigOf(a), uint(n)))
			got, e := Shift(a, n)
			check(t, "up "+brief(a), got, e, want, err)
			got, e = Shift(a, -n)
			check(t, "down "+brief(a), got, e, wordsOf(new(big.Int).Rsh(bigOf(a), uint(n))), api.OK)
		}
	}
	full := list(api.MaxWords, allBits)
	got, e := Shift(full, -api.MaxShift+1)
	check(t, "the top bit alone", got, e, []uint32{1}, api.OK)
	got, e = Shift([]uint32{1}, api.MaxShift-1)
	check(t, "the highest bit", got, e, append(list(api.MaxWords-1, 0), 1<<31), api.OK)
	got, e = Shift(nil, api.MaxShift)
	check(t, "0 far up", got, e, nil, api.OK)
}

// P2.2: Shift by too much, and then some.
func TestShiftTooFar(t *testing.T) {
	for _, a := range [][]uint32{nil, {1}, {6, 7}, list(api.MaxWords, allBits)} {
		for _, n := range []int{api.MaxShift + 1, -api.MaxShift - 1, 1 << 20, -1 << 20, math.MaxInt, math.MinInt} {
			got, e := Shift(a, n)
			check(t, "too far", got, e, nil, api.ErrArg)
		}
	}
}

// P2.2: lists that are no numbers come first, ahead of a divisor 0, of a difference below 0, of a shift that is none.
func TestUnsoundNumbers(t *testing.T) {
	for a, b := range wrongPairs {
		got, e := Add(a, b)
		check(t, "Add", got, e, nil, api.ErrForm)
		got, e = Sub(a, b)
		check(t, "Sub", got, e, nil, api.ErrForm)
		got, e = Mul(a, b)
		check(t, "Mul", got, e, nil, api.ErrForm)
		got, e = Gcd(a, b)
		check(t, "Gcd", got, e, nil, api.ErrForm)
		q, r, e := Div(a, b)
		check(t, "Div", slices.Concat(q, r), e, nil, api.ErrForm)
	}
	for _, a := range unsound() {
		s, r, e := Root(a)
		check(t, "Root", slices.Concat(s, r), e, nil, api.ErrForm)
		for _, n := range []int{0, 1, -1, api.MaxShift, -api.MaxShift, api.MaxShift + 1, math.MinInt} {
			got, e := Shift(a, n)
			check(t, "Shift", got, e, nil, api.ErrForm)
		}
	}
}
