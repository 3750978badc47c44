package bytevec

import (
	"bytes"
	"math/big"
	"slices"
	"strconv"
	"testing"

	"sextant/api"
	"sextant/exact"
)

// answer is what a call answers, of whichever kind.
type answer struct {
	e     api.Errno
	bytes []byte
	nums  []api.Num
}

// calls are all that this package has, at places where they answer something and where they answer errors.
func calls() map[string]func(b, c []byte, list []api.Num) answer {
	out := map[string]func(b, c []byte, list []api.Num) answer{}
	for _, f := range forms(0, 1, 4, 5) {
		for _, at := range []int{0, 3, -1} {
			where := f.String() + ", at " + strconv.Itoa(at)
			out["Get, "+where] = func(b, c []byte, list []api.Num) answer {
				n, e := Get(b, at, f.size, f.big, f.signed)
				return answer{e: e, nums: []api.Num{n}}
			}
			for i := range 6 {
				out["Put, "+where+", number "+strconv.Itoa(i)] = func(b, c []byte, list []api.Num) answer {
					got, e := Put(b, at, f.size, f.big, f.signed, list[i])
					return answer{e: e, bytes: got}
				}
			}
		}
		out["List, "+f.String()] = func(b, c []byte, list []api.Num) answer {
			nums, e := List(b, f.size, f.big, f.signed)
			return answer{e: e, nums: nums}
		}
		for n := range 6 {
			out["Of, "+f.String()+", numbers "+strconv.Itoa(n)] = func(b, c []byte, list []api.Num) answer {
				got, e := Of(list[:n], f.size, f.big, f.signed)
				return answer{e: e, bytes: got}
			}
		}
	}
	for _, n := range []int{0, 1, 10, 11} {
		out["Copy of "+strconv.Itoa(n)] = func(b, c []byte, list []api.Num) answer {
			got, e := Copy(b, 0, c, 0, n)
			return answer{e: e, bytes: got}
		}
	}
	return out
}

func numbers() []api.Num {
	return []api.Num{exact.Int(0), exact.Int(100), exact.Int(-3), num(plus(pow2(35), 7)), num(neg(pow2(39))), complexNum("1/2", "0"), {}}
}

// roomyBytes has spare room behind it that must stay as it is.
func roomyBytes(b []byte) []byte {
	return append(slices.Clone(b), bytes.Repeat([]byte{0xab}, 9)...)[:len(b)]
}

func roomyWords(a []uint32) []uint32 {
	return append(slices.Clone(a), list(9, 0xabcdabcd)...)[:len(a)]
}

func roomyNumbers(l []api.Num) []api.Num {
	out := make([]api.Num, 0, len(l)+4)
	for _, n := range l {
		out = append(out, api.Num{
			Re: api.Rat{Neg: n.Re.Neg, Top: roomyWords(n.Re.Top), Bot: roomyWords(n.Re.Bot)},
			Im: api.Rat{Neg: n.Im.Neg, Top: roomyWords(n.Im.Top), Bot: roomyWords(n.Im.Bot)},
		})
	}
	spare := out[len(out):cap(out)]
	for i := range spare {
		spare[i] = exact.Int(77)
	}
	return out
}

// words are all lists of some numbers.
func words(l []api.Num) [][]uint32 {
	var out [][]uint32
	for _, n := range l {
		out = append(out, n.Re.Top, n.Re.Bot, n.Im.Top, n.Im.Bot)
	}
	return out
}

// copied is all that can be reached by what was handed in or answered, spare room included.
func copied(b []byte, l []api.Num) ([]byte, []api.Num, [][]uint32) {
	l = slices.Clone(l[:cap(l)])
	var all [][]uint32
	for _, a := range words(l) {
		all = append(all, slices.Clone(a[:cap(a)]))
	}
	return slices.Clone(b[:cap(b)]), l, all
}

func sameAll(t *testing.T, name string, b []byte, l []api.Num, keptBytes []byte, keptNums []api.Num, keptWords [][]uint32) {
	t.Helper()
	nowBytes, nowNums, nowWords := copied(b, l)
	if !bytes.Equal(nowBytes, keptBytes) || !slices.EqualFunc(nowNums, keptNums, equal) || !slices.EqualFunc(nowWords, keptWords, slices.Equal[[]uint32]) {
		t.Fatalf("%s: what was handed in is changed", name)
	}
}

// spoil writes over all of an answer, spare room included; each list must be as it was till its turn comes.
func spoil(t *testing.T, name string, a answer) {
	t.Helper()
	var kept [][]uint32
	lists := words(a.nums)
	for _, l := range lists {
		kept = append(kept, slices.Clone(l))
	}
	for i, l := range lists {
		if !slices.Equal(l, kept[i]) {
			t.Fatalf("%s: list %d shares memory with one before it", name, i)
		}
		l = l[:cap(l)]
		for k := range l {
			l[k] = 0x77777777
		}
	}
	for i, b := 0, a.bytes[:cap(a.bytes)]; i < len(b); i++ {
		b[i] ^= 0x55
	}
	clear(a.nums[:cap(a.nums)])
}

// R4: nothing that is handed in is changed, spare room included, and no answer shares memory with it or with another list.
func TestMemory(t *testing.T) {
	for name, call := range calls() {
		b, c := roomyBytes([]byte{255, 2, 3, 4, 0, 6, 7, 128, 9, 10}), roomyBytes([]byte{1, 0, 255, 0, 1, 0, 255, 0, 1, 0})
		l := roomyNumbers(numbers())
		keptB, keptNums, keptWords := copied(b, l)
		keptC, _, _ := copied(c, nil)
		got := call(b, c, l)
		sameAll(t, name, b, l, keptB, keptNums, keptWords)
		spoil(t, name, got)
		sameAll(t, name, b, l, keptB, keptNums, keptWords)
		sameAll(t, name, c, nil, keptC, nil, nil)
	}
}

// R4: numbers that share their lists are as good as others, and nil and empty lists are the same.
func TestSameLists(t *testing.T) {
	one := []uint32{1}
	shared := api.Num{Re: api.Rat{Neg: true, Top: one, Bot: one}, Im: api.Rat{Top: []uint32{}, Bot: one}}
	zero := api.Num{Re: api.Rat{Top: []uint32{}, Bot: one}, Im: api.Rat{Top: []uint32{}, Bot: one}}
	for _, f := range forms(1, 3) {
		got, e := Put(make([]byte, f.size), 0, f.size, f.big, f.signed, zero)
		checkBytes(t, "Put of 0 as an empty list", got, e, make([]byte, f.size), api.OK)
		if f.signed {
			checkOf(t, []api.Num{shared, zero, shared}, f, slices.Concat(f.bytesOf(big.NewInt(-1)), make([]byte, f.size), f.bytesOf(big.NewInt(-1))), api.OK)
		}
	}
}

// R5: what one call was given is nothing to the next.
func TestAgain(t *testing.T) {
	b, c := []byte{255, 2, 3, 4, 0, 6, 7, 128, 9, 10}, make([]byte, 10)
	for name, call := range calls() {
		first := call(b, c, numbers())
		for _, other := range calls() {
			other(c, b, numbers())
		}
		again := call(b, c, numbers())
		if again.e != first.e || !bytes.Equal(again.bytes, first.bytes) || !slices.EqualFunc(again.nums, first.nums, equal) {
			t.Errorf("%s differs the second time", name)
		}
	}
}
