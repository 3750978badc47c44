package exact

import (
	"math/big"
	"slices"
	"testing"

	"sextant/api"
)

// calls are all that take or answer numbers; each answers its numbers.
func calls() map[string]func(a, b api.Num) []api.Num {
	two := func(f func(a, b api.Num) (api.Num, api.Errno)) func(a, b api.Num) []api.Num {
		return func(a, b api.Num) []api.Num {
			n, _ := f(a, b)
			return []api.Num{n}
		}
	}
	power := func(n int) func(a, b api.Num) []api.Num {
		return two(func(a, b api.Num) (api.Num, api.Errno) { return Expt(a, n) })
	}
	return map[string]func(a, b api.Num) []api.Num{
		"Add":     two(Add),
		"Sub":     two(Sub),
		"Mul":     two(Mul),
		"Div":     two(Div),
		"Floor":   two(func(a, b api.Num) (api.Num, api.Errno) { return Floor(a) }),
		"Expt 0":  power(0),
		"Expt 1":  power(1),
		"Expt -1": power(-1),
		"Expt 5":  power(5),
		"Expt -2": power(-2),
		"Expt":    power(9999),
		"DivMod": func(a, b api.Num) []api.Num {
			q, r, _ := DivMod(a, b)
			return []api.Num{q, r}
		},
		"Int and Read": func(a, b api.Num) []api.Num {
			s, _ := Text(a, 16)
			n, _ := Read(s, 16)
			return []api.Num{Int(7), n, Int(0), Int(-1 << 63)}
		},
		"the rest": func(a, b api.Num) []api.Num {
			Sound(a)
			Cmp(a, b)
			Same(a, b)
			Whole(a)
			Small(a)
			Text(a, 10)
			Text(a, 99)
			return nil
		},
	}
}

// lists are those of a number.
func lists(a api.Num) [][]uint32 {
	return [][]uint32{a.Re.Top, a.Re.Bot, a.Im.Top, a.Im.Bot}
}

// roomy is the number with spare room behind each list that must stay as it is; whole are the lists with it.
func roomy(a api.Num) (b api.Num, whole [][]uint32) {
	for _, a := range lists(a) {
		whole = append(whole, slices.Concat(a, list(9, 0xabcdabcd)))
	}
	part := func(i int) []uint32 { return whole[i][:len(lists(a)[i])] }
	b.Re = api.Rat{Neg: a.Re.Neg, Top: part(0), Bot: part(1)}
	b.Im = api.Rat{Neg: a.Im.Neg, Top: part(2), Bot: part(3)}
	return b, whole
}

func sameLists(a, b [][]uint32) bool {
	return slices.EqualFunc(a, b, slices.Equal[[]uint32])
}

func cloneLists(a [][]uint32) [][]uint32 {
	var out [][]uint32
	for _, a := range a {
		out = append(out, slices.Clone(a))
	}
	return out
}

// R4: nothing that is handed in is changed, spare room included, and no answer shares memory with it or with another list.
func TestMemory(t *testing.T) {
	var all []api.Num
	for _, s := range []string{"0", "1", "-1", "3/2", "-5/7", "12345678901234567890/77"} {
		all = append(all, num(s, "0"), num(s, "2/3"), num(s, "-1"), num("0", s))
	}
	p := new(big.Int).Sub(pow2(16000), big.NewInt(1))
	all = append(all, complexNum(wholeRat(p), frac(big.NewInt(-1), p)))
	for i, bad := range unsound() {
		if i%9 == 0 {
			all = append(all, bad)
		}
	}
	for name, call := range calls() {
		for _, x := range all {
			for _, y := range all {
				a, wholeA := roomy(x)
				b, wholeB := roomy(y)
				keptA, keptB := cloneLists(wholeA), cloneLists(wholeB)
				var answers [][]uint32
				for _, n := range call(a, b) {
					answers = append(answers, lists(n)...)
				}
				want := cloneLists(answers)
				for i, out := range answers {
					if !slices.Equal(out, want[i]) {
						t.Fatalf("%s(%s; %s): list %d shares memory with one before it", name, brief(x), brief(y), i)
					}
					out = out[:cap(out)]
					for k := range out {
						out[k] = 0x77777777
					}
				}
				if !sameLists(wholeA, keptA) || !sameLists(wholeB, keptB) {
					t.Fatalf("%s(%s; %s): what was handed in is changed", name, brief(x), brief(y))
				}
			}
		}
	}
}

// R4: one number may be handed in twice, and one list may stand in it twice.
func TestSameLists(t *testing.T) {
	shared := []uint32{7}
	one := []uint32{1}
	twice := api.Num{Re: api.Rat{Top: shared, Bot: one}, Im: api.Rat{Neg: true, Top: shared, Bot: one}}
	for _, a := range []api.Num{num("0", "0"), num("5/3", "0"), num("1/2", "-7/9"), twice} {
		for name, call := range calls() {
			apart, _ := roomy(a)
			other, _ := roomy(a)
			got, want := call(a, a), call(apart, other)
			if !slices.EqualFunc(got, want, equal) {
				t.Errorf("%s of one number twice differs", name)
			}
		}
	}
}

// R5: what one call was given is nothing to the next.
func TestAgain(t *testing.T) {
	first, _ := Read("123456789012345678901234567890/7-5i", 10)
	Expt(first, 9)
	Read("#x1/0", 10)
	again, e := Read("123456789012345678901234567890/7-5i", 10)
	check(t, "Read again", again, e, num("123456789012345678901234567890/7", "-5"), api.OK)
	check(t, "the first", first, api.OK, again, api.OK)
}
