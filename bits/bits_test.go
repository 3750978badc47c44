package bits

import (
	"math/big"
	"slices"
	"testing"

	"sextant/api"
	"sextant/exact"
)

// The chapter's examples.
func TestExamples(t *testing.T) {
	want := func(what string, got api.Num, e api.Errno, n int64) {
		t.Helper()
		checkValue(t, what, got, e, big.NewInt(n))
	}
	n, e := And(exact.Int(-1), exact.Int(5))
	want("And", n, e, 5)
	n, e = Or(exact.Int(-8), exact.Int(3))
	want("Or", n, e, -5)
	n, e = Xor(exact.Int(-1), exact.Int(5))
	want("Xor", n, e, -6)
	n, e = Not(exact.Int(0))
	want("Not", n, e, -1)
	n, e = Shift(exact.Int(-5), -1)
	want("Shift", n, e, -3)
	n, e = Shift(complexNum("1/2", "0"), 1)
	checkError(t, "Shift", n, e, api.ErrType)
	for a, want := range map[int]int{-1: -1, 7: 3, -8: -4} {
		k, e := Count(exact.Int(a))
		checkInt(t, "Count", k, e, want, api.OK)
	}
	for a, want := range map[int]int{-8: 3, 8: 4} {
		k, e := Length(exact.Int(a))
		checkInt(t, "Length", k, e, want, api.OK)
	}
	n, e = Field(exact.Int(-1), 4, 8)
	want("Field", n, e, 15)
}

// pairCall is a call of two numbers, and what it is by the library's own arithmetic.
type pairCall struct {
	name string
	call func(a, b api.Num) (api.Num, api.Errno)
	want func(a, b *big.Int) *big.Int
}

func pairCalls() []pairCall {
	return []pairCall{
		{"And", And, func(a, b *big.Int) *big.Int { return new(big.Int).And(a, b) }},
		{"Or", Or, func(a, b *big.Int) *big.Int { return new(big.Int).Or(a, b) }},
		{"Xor", Xor, func(a, b *big.Int) *big.Int { return new(big.Int).Xor(a, b) }},
	}
}

func checkPair(t *testing.T, a, b *big.Int) {
	t.Helper()
	for _, c := range pairCalls() {
		got, e := c.call(num(a), num(b))
		checkValue(t, c.name+"("+brief(a)+", "+brief(b)+")", got, e, c.want(a, b))
	}
}

func checkNot(t *testing.T, a *big.Int) {
	t.Helper()
	got, e := Not(num(a))
	checkValue(t, "Not("+brief(a)+")", got, e, plus(neg(a), -1))
}

// P4.1: all pairs of short numbers, bit by bit as the machine's own ints have them.
func TestShortPairs(t *testing.T) {
	for a := -40; a <= 40; a++ {
		for b := -40; b <= 40; b++ {
			for i, want := range []int{a & b, a | b, a ^ b} {
				c := pairCalls()[i]
				got, e := c.call(exact.Int(a), exact.Int(b))
				checkValue(t, c.name, got, e, big.NewInt(int64(want)))
			}
		}
		got, e := Not(exact.Int(a))
		checkValue(t, "Not", got, e, big.NewInt(int64(^a)))
	}
}

// P4.1: all pairs of numbers next to powers of 2, of different lengths and of each pair of signs.
func TestPairs(t *testing.T) {
	for _, a := range wholes() {
		checkNot(t, a)
		for _, b := range wholes() {
			checkPair(t, a, b)
		}
	}
}

// P4.1: pairs of numbers of all lengths.
func TestSomePairs(t *testing.T) {
	for a, b := range somePairs(3) {
		checkPair(t, a, b)
		checkNot(t, a)
	}
}

// P4.1: answers of just MaxWords words and of one more.
func TestLongAnswers(t *testing.T) {
	greatest := plus(pow2(mostBits), -1)
	got, e := Not(num(greatest))
	checkError(t, "Not of the greatest", got, e, api.ErrLarge)
	got, e = Not(num(plus(greatest, -1)))
	checkValue(t, "Not of the one below it", got, e, neg(greatest))
	got, e = Not(num(neg(greatest)))
	checkValue(t, "Not of the least", got, e, plus(greatest, -1))
	got, e = And(num(neg(greatest)), exact.Int(-2))
	checkError(t, "And of the least and -2", got, e, api.ErrLarge)
	got, e = And(num(neg(greatest)), exact.Int(-1))
	checkValue(t, "And of the least and -1", got, e, neg(greatest))
	got, e = Xor(num(greatest), exact.Int(-1))
	checkError(t, "Xor of the greatest and -1", got, e, api.ErrLarge)
	got, e = Xor(exact.Int(-1), num(greatest))
	checkError(t, "Xor of -1 and the greatest", got, e, api.ErrLarge)
	got, e = Xor(num(greatest), exact.Int(-2))
	checkValue(t, "Xor of the greatest and -2", got, e, neg(greatest))
	got, e = Xor(num(neg(greatest)), exact.Int(1))
	checkError(t, "Xor of the least and 1", got, e, api.ErrLarge)
	got, e = Or(num(greatest), num(neg(greatest)))
	checkValue(t, "Or of both", got, e, big.NewInt(-1))
}

// P4.1: answers that are much shorter than what was handed in.
func TestShortAnswers(t *testing.T) {
	for _, a := range wholes() {
		got, e := Xor(num(a), num(a))
		checkValue(t, "Xor of a number and itself", got, e, new(big.Int))
		other, e := Not(num(a))
		if e != api.OK {
			continue
		}
		got, e = And(num(a), other)
		checkValue(t, "And of a number and Not of it", got, e, new(big.Int))
		got, e = Or(num(a), other)
		checkValue(t, "Or of a number and Not of it", got, e, big.NewInt(-1))
		got, e = Not(other)
		checkValue(t, "Not of Not", got, e, a)
	}
}

// P3: bits say what numbers say: And and Or together are the sum, Or less And is Xor, Not is -a - 1.
func TestBitsAreNumbers(t *testing.T) {
	sure := func(n api.Num, e api.Errno) api.Num {
		if e != api.OK {
			t.Fatalf("error %d", e)
		}
		return n
	}
	for x, y := range somePairs(5) {
		if x.BitLen() > mostBits-2 || y.BitLen() > mostBits-2 {
			continue
		}
		a, b := num(x), num(y)
		and, or := sure(And(a, b)), sure(Or(a, b))
		if !exact.Same(sure(exact.Add(and, or)), sure(exact.Add(a, b))) {
			t.Errorf("And and Or of %s, %s are not the sum", brief(x), brief(y))
		}
		if !exact.Same(sure(exact.Sub(or, and)), sure(Xor(a, b))) {
			t.Errorf("Or less And of %s, %s is not Xor", brief(x), brief(y))
		}
		if !exact.Same(sure(Not(a)), sure(exact.Sub(exact.Int(-1), a))) {
			t.Errorf("Not of %s is not -a - 1", brief(x))
		}
	}
}

// P4.1: a number that is not sound is told on each side, ahead of one that is not whole.
func TestUnsoundPairs(t *testing.T) {
	bads := unsound()
	others := append(notWhole(), exact.Int(0), exact.Int(-1), num(plus(pow2(mostBits), -1)))
	for _, c := range pairCalls() {
		for i, bad := range bads {
			others := append(slices.Clone(others), bad, bads[(i*7+3)%len(bads)])
			for _, other := range others {
				got, e := c.call(bad, other)
				checkError(t, c.name+" with what is not sound ahead", got, e, api.ErrForm)
				got, e = c.call(other, bad)
				checkError(t, c.name+" with what is not sound behind", got, e, api.ErrForm)
			}
		}
	}
	for _, bad := range bads {
		got, e := Not(bad)
		checkError(t, "Not", got, e, api.ErrForm)
	}
}

// P4.1: a number that is not whole is told on each side, ahead of an answer that is too long.
func TestPairsNotWhole(t *testing.T) {
	wrong := notWhole()
	for _, c := range pairCalls() {
		for i, bad := range wrong {
			for _, other := range []api.Num{exact.Int(0), exact.Int(-1), num(plus(pow2(mostBits), -1)), bad, wrong[(i*5+2)%len(wrong)]} {
				got, e := c.call(bad, other)
				checkError(t, c.name+" with what is not whole ahead", got, e, api.ErrType)
				got, e = c.call(other, bad)
				checkError(t, c.name+" with what is not whole behind", got, e, api.ErrType)
			}
		}
	}
	for _, bad := range wrong {
		got, e := Not(bad)
		checkError(t, "Not", got, e, api.ErrType)
	}
}

// FuzzPairs holds all calls against the library's arithmetic.
func FuzzPairs(f *testing.F) {
	f.Add([]byte{5}, []byte{255, 0, 0, 0, 7}, true, false, 3, 9)
	f.Add([]byte{}, []byte{1, 0, 0, 0, 0}, false, true, -40, 0)
	f.Fuzz(func(t *testing.T, x, y []byte, negX, negY bool, n, m int) {
		a, b := new(big.Int).SetBytes(x), new(big.Int).SetBytes(y)
		if a.BitLen() > mostBits || b.BitLen() > mostBits {
			return
		}
		if negX {
			a.Neg(a)
		}
		if negY {
			b.Neg(b)
		}
		checkPair(t, a, b)
		checkNot(t, a)
		checkShift(t, a, n)
		checkShift(t, a, n%(api.MaxShift+2))
		checkCounts(t, a)
		checkField(t, a, n, m)
		checkField(t, a, n%1000, m%(api.MaxShift+2))
	})
}
