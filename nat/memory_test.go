package nat

import (
	"math"
	"slices"
	"testing"

	"sextant/api"
)

// calls are all that answer lists; each answers its lists.
func calls() map[string]func(a, b []uint32) [][]uint32 {
	one := func(f func(a, b []uint32) ([]uint32, api.Errno)) func(a, b []uint32) [][]uint32 {
		return func(a, b []uint32) [][]uint32 {
			out, _ := f(a, b)
			return [][]uint32{out}
		}
	}
	shift := func(n int) func(a, b []uint32) [][]uint32 {
		return one(func(a, b []uint32) ([]uint32, api.Errno) { return Shift(a, n) })
	}
	return map[string]func(a, b []uint32) [][]uint32{
		"Add":        one(Add),
		"Sub":        one(Sub),
		"Mul":        one(Mul),
		"Gcd":        one(Gcd),
		"Shift 0":    shift(0),
		"Shift 5":    shift(5),
		"Shift 32":   shift(32),
		"Shift -5":   shift(-5),
		"Shift -32":  shift(-32),
		"Shift far":  shift(math.MaxInt),
		"Shift down": shift(math.MinInt),
		"Div": func(a, b []uint32) [][]uint32 {
			q, r, _ := Div(a, b)
			return [][]uint32{q, r}
		},
		"Root": func(a, b []uint32) [][]uint32 {
			s, r, _ := Root(a)
			return [][]uint32{s, r}
		},
		"the rest": func(a, b []uint32) [][]uint32 {
			Sound(a)
			Cmp(a, b)
			Bits(a)
			Text(a, 10)
			Text(a, 99)
			return nil
		},
	}
}

// roomy is the list with spare room behind it that must stay as it is.
func roomy(a []uint32) (whole, part []uint32) {
	whole = slices.Concat(a, list(9, 0xabcdabcd))
	return whole, whole[:len(a)]
}

// R4: nothing that is handed in is changed, spare room included, and no answer shares memory with it or with another list.
func TestMemory(t *testing.T) {
	numbers := [][]uint32{nil, {}, {1}, {12}, {0, 1}, {allBits, allBits}, {5, 6, 7}, {5, 6, 1 << 31}, list(40, allBits), list(api.MaxWords, allBits)}
	for name, call := range calls() {
		for _, x := range append(numbers, unsound()...) {
			for _, y := range append(numbers, unsound()...) {
				a, b := slices.Clone(x), slices.Clone(y)
				wholeA, partA := roomy(a)
				wholeB, partB := roomy(b)
				answers := call(partA, partB)
				want := make([][]uint32, len(answers))
				for i, out := range answers {
					want[i] = slices.Clone(out)
				}
				for i, out := range answers {
					if !slices.Equal(out, want[i]) {
						t.Fatalf("%s: list %d shares memory with one before it", name, i)
					}
					out = out[:cap(out)]
					for k := range out {
						out[k] = 0x77777777
					}
				}
				spare := list(9, 0xabcdabcd)
				if !slices.Equal(wholeA, slices.Concat(x, spare)) || !slices.Equal(wholeB, slices.Concat(y, spare)) {
					t.Fatalf("%s: what was handed in is changed", name)
				}
			}
		}
	}
}

// R4: one list may be handed in twice.
func TestSameList(t *testing.T) {
	for _, a := range [][]uint32{nil, {7}, {allBits, allBits, allBits}, list(200, allBits)} {
		apart := slices.Clone(a)
		for name, call := range calls() {
			got, want := call(a, a), call(apart, slices.Clone(a))
			for i := range want {
				if !slices.Equal(got[i], want[i]) {
					t.Errorf("%s of one list twice differs", name)
				}
			}
		}
	}
}
