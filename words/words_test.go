package words

import (
	"cmp"
	"math/big"
	"math/rand"
	"slices"
	"testing"
)

const allBits = 0xffffffff

// bigOf is the number by the library's own arithmetic, which these tests hold the package against.
func bigOf(a []uint32) *big.Int {
	var bytes []byte
	for _, word := range slices.Backward(a) {
		bytes = append(bytes, byte(word>>24), byte(word>>16), byte(word>>8), byte(word))
	}
	return new(big.Int).SetBytes(bytes)
}

func check(t *testing.T, what string, got []uint32, want *big.Int) {
	t.Helper()
	if bigOf(got).Cmp(want) != 0 {
		t.Errorf("%s: %s; want %s", what, bigOf(got), want)
	}
	if len(got) > 0 && got[len(got)-1] == 0 {
		t.Errorf("%s: a nought on top", what)
	}
}

// some are numbers of up to so many words, which are often at their ends, where a guessed digit is wrong.
func some(r *rand.Rand, words int) []uint32 {
	ends := []uint32{0, 1, 1 << 31, 1<<31 - 1, allBits, allBits - 1}
	a := make([]uint32, r.Intn(words+1))
	odd := r.Intn(3)
	for k := range a {
		a[k] = ends[r.Intn(len(ends))]
		if r.Intn(3) < odd {
			a[k] = r.Uint32()
		}
	}
	for len(a) > 0 && a[len(a)-1] == 0 {
		a[len(a)-1] = ends[r.Intn(len(ends))]
	}
	return a
}

// spare stands behind what is handed in, and stays.
const spare = 0xabcdabcd

func roomy(a []uint32) []uint32 {
	return append(a, spare, spare)[:len(a)]
}

// All calls hold at lengths beyond those of any layer's numbers, and nothing that is handed in is changed.
func TestLongNumbers(t *testing.T) {
	r := rand.New(rand.NewSource(13))
	for _, c := range []struct{ count, words int }{{2000, 4}, {500, 20}, {100, 200}, {20, 1100}, {4, 4200}} {
		for range c.count {
			a, b := roomy(some(r, c.words)), roomy(some(r, c.words))
			keptA, keptB := slices.Clone(a[:len(a)+2]), slices.Clone(b[:len(b)+2])
			checkPair(t, a, b)
			checkShifts(t, a, r.Intn(32*c.words))
			if !slices.Equal(keptA, a[:len(a)+2]) || !slices.Equal(keptB, b[:len(b)+2]) {
				t.Fatal("what was handed in is changed")
			}
		}
	}
}

func checkPair(t *testing.T, a, b []uint32) {
	t.Helper()
	x, y := bigOf(a), bigOf(b)
	check(t, "Sum", Sum(a, b), new(big.Int).Add(x, y))
	gap := new(big.Int).Sub(x, y)
	check(t, "Difference", Difference(a, b), gap.Abs(gap))
	check(t, "Product", Product(a, b), new(big.Int).Mul(x, y))
	check(t, "Divisor", Divisor(a, b), new(big.Int).GCD(nil, nil, x, y))
	if got := Order(a, b); got != x.Cmp(y) {
		t.Errorf("Order is %d; want %d", got, x.Cmp(y))
	}
	if got := Bits(a); got != x.BitLen() {
		t.Errorf("Bits is %d; want %d", got, x.BitLen())
	}
	if len(b) == 0 {
		return
	}
	quo, rem := new(big.Int).QuoRem(x, y, new(big.Int))
	q, left := Divide(a, b)
	check(t, "Divide", q, quo)
	check(t, "Divide left", left, rem)
	word := b[len(b)-1]
	quo, rem = quo.QuoRem(x, new(big.Int).SetUint64(uint64(word)), rem)
	q, last := DivideByWord(a, word)
	check(t, "DivideByWord", q, quo)
	check(t, "DivideByWord left", Of(uint64(last)), rem)
}

func checkShifts(t *testing.T, a []uint32, n int) {
	t.Helper()
	for _, n := range []int{0, 1, 31, 32, 33, n} {
		check(t, "ShiftUp", ShiftUp(a, n), new(big.Int).Lsh(bigOf(a), uint(n)))
		check(t, "ShiftDown", ShiftDown(a, n), new(big.Int).Rsh(bigOf(a), uint(n)))
	}
}

// A common divisor that is itself long is found.
func TestLongDivisor(t *testing.T) {
	r := rand.New(rand.NewSource(17))
	for range 30 {
		common := some(r, 600)
		a, b := Product(common, some(r, 600)), Product(common, some(r, 600))
		check(t, "Divisor", Divisor(a, b), new(big.Int).GCD(nil, nil, bigOf(a), bigOf(b)))
		check(t, "Divisor of one number", Divisor(a, a), bigOf(a))
		check(t, "Divisor with 0", Divisor(nil, a), bigOf(a))
		check(t, "Divisor with 0 behind", Divisor(a, nil), bigOf(a))
	}
}

// Of takes the words of a number of 64 bits apart.
func TestOf(t *testing.T) {
	for _, n := range []uint64{0, 1, allBits, 1 << 32, 1<<32 + 7, 1<<64 - 1} {
		check(t, "Of", Of(n), new(big.Int).SetUint64(n))
		if got := Order(Of(n), Of(1<<32)); got != cmp.Compare(n, 1<<32) {
			t.Errorf("Order of %d and 2 to the power 32 is %d", n, got)
		}
	}
}

// No answer shares memory with what was handed in, or with the other answer.
func TestMemory(t *testing.T) {
	r := rand.New(rand.NewSource(19))
	for range 300 {
		a, b := some(r, 6), some(r, 4)
		if len(b) == 0 {
			b = []uint32{1}
		}
		keptA, keptB := slices.Clone(a), slices.Clone(b)
		q, left := Divide(a, b)
		byWord, _ := DivideByWord(a, 1)
		answers := [][]uint32{q, left, byWord, Sum(a, nil), Difference(a, nil), Product(a, Of(1)), ShiftUp(a, 0), ShiftDown(a, 0), Divisor(a, nil), Divisor(a, b)}
		var want [][]uint32
		for _, out := range answers {
			want = append(want, slices.Clone(out))
		}
		for i, out := range answers {
			if !slices.Equal(out, want[i]) {
				t.Fatalf("answer %d shares memory with one before it", i)
			}
			out = out[:cap(out)]
			for k := range out {
				out[k] = 0x77777777
			}
		}
		if !slices.Equal(a, keptA) || !slices.Equal(b, keptB) {
			t.Fatal("an answer shares memory with what was handed in")
		}
	}
}
