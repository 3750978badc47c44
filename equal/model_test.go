package equal

import (
	"math/big"
	"math/rand/v2"
	"slices"
	"testing"

	"sextant/api"
	"sextant/datum"
)

// row lays a sound datum out as numbers, so that the first two that differ in two rows tell the order: kinds and lengths go ahead, and texts and bytes end with a number below all of theirs.
func row(d api.Datum) []*big.Rat {
	out := []*big.Rat{big.NewRat(int64(d.Kind), 1)}
	add := func(n int) { out = append(out, big.NewRat(int64(n), 1)) }
	switch d.Kind {
	case api.Bool, api.Char:
		add(d.N)
	case api.Number:
		out = append(out, rationalOf(d.Num.Re), rationalOf(d.Num.Im))
	case api.Vector:
		add(len(d.List))
	case api.String, api.Symbol, api.Other:
		for _, c := range []rune(d.Text) {
			add(int(c))
		}
		add(-1)
	case api.Bytes:
		for _, b := range d.Raw {
			add(int(b))
		}
		add(-1)
	}
	for _, item := range d.List {
		out = append(out, row(item)...)
	}
	return out
}

func rationalOf(r api.Rat) *big.Rat {
	out := new(big.Rat).SetFrac(bigOf(r.Top), bigOf(r.Bot))
	if r.Neg {
		out.Neg(out)
	}
	return out
}

func bigOf(words []uint32) *big.Int {
	out := new(big.Int)
	for _, word := range slices.Backward(words) {
		out.Or(out.Lsh(out, 32), big.NewInt(int64(word)))
	}
	return out
}

// modelCmp is the order of sound data by their rows.
func modelCmp(a, b api.Datum) int { return slices.CompareFunc(row(a), row(b), (*big.Rat).Cmp) }

// heldToModel: all calls answer as the rows and the fields do.
func heldToModel(t *testing.T, a, b api.Datum) {
	t.Helper()
	want := modelCmp(a, b)
	if (want == 0) != same(a, b) {
		t.Fatalf("%s, %s: the model's order is %d", brief(a), brief(b), want)
	}
	compares(t, a, b, want)
	if (Hash(a) == Hash(b)) != (want == 0) {
		t.Errorf("%s, %s: the hashes are %d and %d", brief(a), brief(b), Hash(a), Hash(b))
	}
}

func randomText(random *rand.Rand) string {
	some := []string{"a", "b", "\x00", "\x7f", "\u0080", "é", "λ", "\u07ff", "\u0800", "\ufffd", "\uffff", "\U00010000", "\U0010ffff"}
	text := ""
	for range random.IntN(4) {
		text += some[random.IntN(len(some))]
	}
	return text
}

func randomRational(random *rand.Rand) *big.Rat {
	some := []int64{0, 1, 2, 3, 7, 1<<32 - 1, 1 << 32, 1 << 40}
	return big.NewRat(some[random.IntN(len(some))]*int64(1-2*random.IntN(2)), max(1, some[random.IntN(len(some))]))
}

func randomAtom(random *rand.Rand) api.Datum {
	switch random.IntN(11) {
	case 0:
		return empty()
	case 1:
		return boolean(random.IntN(2))
	case 2:
		return number(randomRational(random), new(big.Rat))
	case 3:
		return number(randomRational(random), randomRational(random))
	case 4:
		return char([]rune(randomText(random) + "a")[0])
	case 5:
		return str(randomText(random))
	case 6:
		return sym(randomText(random))
	case 7:
		return raw([]byte(randomText(random))...)
	case 8:
		return vector()
	case 9:
		return void()
	}
	return other(randomText(random))
}

// randomDatum is one of at most so many levels.
func randomDatum(random *rand.Rand, levels int) api.Datum {
	if levels == 0 || random.IntN(5) == 0 {
		return randomAtom(random)
	}
	var items []api.Datum
	for range 1 + random.IntN(3) {
		items = append(items, randomDatum(random, levels-1))
	}
	switch random.IntN(3) {
	case 0:
		return vector(items...)
	case 1:
		return dotted(randomDatum(random, levels-1), items...)
	}
	return list(items...)
}

// alteredOnce is a copy with another node in the place of one.
func alteredOnce(random *rand.Rand, d api.Datum) api.Datum {
	if len(d.List) == 0 || random.IntN(6) == 0 {
		return randomDatum(random, 1)
	}
	out := apart(d)
	if at := random.IntN(len(d.List)); d.Kind == api.Vector && random.IntN(6) == 0 {
		out.List = slices.Delete(out.List, at, at+1)
	} else {
		out.List[at] = alteredOnce(random, d.List[at])
	}
	return out
}

// P10.1, P10.2, P10.3: data at random, against others and against some that are nearly the same.
func TestRandomData(t *testing.T) {
	random := rand.New(rand.NewPCG(10, 1))
	for range 4000 {
		d := randomDatum(random, 5)
		isItself(t, d)
		heldToModel(t, d, randomDatum(random, 5))
		once := alteredOnce(random, d)
		heldToModel(t, d, once)
		heldToModel(t, once, alteredOnce(random, d))
		if t.Failed() {
			return
		}
	}
}

// P10.2: what is less than a second datum that is less than a third is less than that: data that Cmp has put in a row go by it all along.
func TestThroughAThird(t *testing.T) {
	random := rand.New(rand.NewPCG(10, 2))
	for range 20 {
		data := []api.Datum{randomDatum(random, 4)}
		for range 60 {
			data = append(data, alteredOnce(random, data[random.IntN(len(data))]), randomDatum(random, 2))
		}
		slices.SortFunc(data, Cmp)
		for i, a := range data {
			for _, b := range data[i+1:] {
				if Cmp(a, b) > 0 || Cmp(b, a) < 0 || (Cmp(a, b) == 0) != Equal(a, b) || Cmp(a, b) != modelCmp(a, b) {
					t.Fatalf("%s stands ahead of %s, and Cmp is %d", brief(a), brief(b), Cmp(a, b))
				}
			}
		}
	}
}

func FuzzData(f *testing.F) {
	for _, s := range []string{"(a . (b)) (a b)", "1 2", "1/2 1/3", "#(2) #(1 1)", "\"ab\" \"b\"", "#t #f", "#\\a #\\b", "#vu8(1) #vu8(1 2)", "1+i 1-i", "-1/2 -1/3", "é \\x10000;", "", "\xff"} {
		f.Add(s)
	}
	f.Fuzz(func(t *testing.T, s string) {
		data, _, _ := datum.All(s)
		for i, a := range data {
			isItself(t, a)
			if i > 0 {
				heldToModel(t, data[i-1], a)
			}
		}
		if bad := str(s); !datum.Sound(bad) {
			isNothing(t, "a bad byte", bad)
		} else if i := len([]rune(s)) / 2; i > 0 {
			heldToModel(t, bad, str(string([]rune(s)[:i])))
			heldToModel(t, sym(string([]rune(s)[i:])), sym(string([]rune(s)[:i])))
			heldToModel(t, raw([]byte(s)...), raw([]byte(s)[i:]...))
		}
	})
}
