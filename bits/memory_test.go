package bits

import (
	"math/big"
	"slices"
	"testing"

	"sextant/api"
	"sextant/exact"
)

// calls are all that this package has, at places where they answer numbers and where they answer errors.
func calls() map[string]func(a, b api.Num) api.Num {
	two := func(f func(a, b api.Num) (api.Num, api.Errno)) func(a, b api.Num) api.Num {
		return func(a, b api.Num) api.Num {
			n, _ := f(a, b)
			return n
		}
	}
	shift := func(n int) func(a, b api.Num) api.Num {
		return two(func(a, b api.Num) (api.Num, api.Errno) { return Shift(a, n) })
	}
	field := func(start, end int) func(a, b api.Num) api.Num {
		return two(func(a, b api.Num) (api.Num, api.Errno) { return Field(a, start, end) })
	}
	return map[string]func(a, b api.Num) api.Num{
		"And":            two(And),
		"Or":             two(Or),
		"Xor":            two(Xor),
		"Not":            two(func(a, b api.Num) (api.Num, api.Errno) { return Not(a) }),
		"Shift by 0":     shift(0),
		"Shift up":       shift(3),
		"Shift up far":   shift(api.MaxShift),
		"Shift down":     shift(-3),
		"Shift down far": shift(-api.MaxShift),
		"Shift beyond":   shift(api.MaxShift + 1),
		"Field of none":  field(2, 2),
		"Field":          field(0, 64),
		"Field of all":   field(0, api.MaxShift),
		"Field beyond":   field(-1, 3),
		"the rest": func(a, b api.Num) api.Num {
			Count(a)
			Length(a)
			return api.Num{}
		},
	}
}

// lists are those of a number.
func lists(a api.Num) [][]uint32 {
	return [][]uint32{a.Re.Top, a.Re.Bot, a.Im.Top, a.Im.Bot}
}

// roomy is the number with spare room behind each list that must stay as it is; all are the lists with it.
func roomy(a api.Num) (b api.Num, all [][]uint32) {
	for _, a := range lists(a) {
		all = append(all, slices.Concat(a, list(9, 0xabcdabcd)))
	}
	part := func(i int) []uint32 { return all[i][:len(lists(a)[i])] }
	b.Re = api.Rat{Neg: a.Re.Neg, Top: part(0), Bot: part(1)}
	b.Im = api.Rat{Neg: a.Im.Neg, Top: part(2), Bot: part(3)}
	return b, all
}

func sameLists(a, b [][]uint32) bool {
	return slices.EqualFunc(a, b, slices.Equal[[]uint32])
}

func cloneLists(a [][]uint32) [][]uint32 {
	var out [][]uint32
	for _, a := range a {
		out = append(out, slices.Clone(a))
	}
	return out
}

// handedIn are numbers of every kind, sound or not.
func handedIn() []api.Num {
	var out []api.Num
	for _, n := range []*big.Int{new(big.Int), big.NewInt(1), big.NewInt(-1), big.NewInt(5), big.NewInt(-8), pow2(64), neg(pow2(64)), plus(pow2(mostBits), -1), neg(plus(pow2(mostBits), -1))} {
		out = append(out, num(n))
	}
	for i, bad := range append(unsound(), notWhole()...) {
		if i%7 == 0 {
			out = append(out, bad)
		}
	}
	return out
}

// R4: nothing that is handed in is changed, spare room included, and no answer shares memory with it or with another list.
func TestMemory(t *testing.T) {
	for name, call := range calls() {
		for _, x := range handedIn() {
			for _, y := range handedIn() {
				a, allA := roomy(x)
				b, allB := roomy(y)
				keptA, keptB := cloneLists(allA), cloneLists(allB)
				answers := lists(call(a, b))
				want := cloneLists(answers)
				for i, out := range answers {
					if !slices.Equal(out, want[i]) {
						t.Fatalf("%s(%s; %s): list %d shares memory with one before it", name, briefNum(x), briefNum(y), i)
					}
					out = out[:cap(out)]
					for k := range out {
						out[k] = 0x77777777
					}
				}
				if !sameLists(allA, keptA) || !sameLists(allB, keptB) {
					t.Fatalf("%s(%s; %s): what was handed in is changed", name, briefNum(x), briefNum(y))
				}
			}
		}
	}
}

// R4: one number may be handed in twice, and one list may stand in it twice.
func TestSameLists(t *testing.T) {
	one := []uint32{1}
	shared := api.Num{Re: api.Rat{Neg: true, Top: one, Bot: one}, Im: api.Rat{Bot: one}}
	for _, a := range append(handedIn(), shared) {
		for name, call := range calls() {
			apart, _ := roomy(a)
			other, _ := roomy(a)
			if !equal(call(a, a), call(apart, other)) {
				t.Errorf("%s of %s twice differs", name, briefNum(a))
			}
		}
	}
}

// R4: nil and empty lists are the same.
func TestEmptyLists(t *testing.T) {
	empty := api.Rat{Top: []uint32{}, Bot: []uint32{1}}
	zero := api.Num{Re: empty, Im: empty}
	for name, call := range calls() {
		for _, b := range handedIn() {
			if !equal(call(zero, b), call(exact.Int(0), b)) || !equal(call(b, zero), call(b, exact.Int(0))) {
				t.Errorf("%s of 0 as an empty list differs", name)
			}
		}
	}
}

// R5: what one call was given is nothing to the next.
func TestAgain(t *testing.T) {
	a, b := num(neg(pow2(100))), num(plus(pow2(70), -1))
	for name, call := range calls() {
		first := call(a, b)
		for _, other := range handedIn() {
			call(other, a)
		}
		if !equal(call(a, b), first) {
			t.Errorf("%s differs the second time", name)
		}
	}
}
