package lists

import (
	"math/rand/v2"
	"slices"
	"strconv"
	"testing"

	"sextant/api"
	"sextant/datum"
	"sextant/equal"
)

// The model works on items alone, by their fields and by counting, and sorts by putting each where it belongs among those ahead of it.

func modelSort(items []api.Datum, key func(d api.Datum) api.Datum) []api.Datum {
	var out []api.Datum
	for _, item := range items {
		at := len(out)
		for at > 0 && equal.Cmp(key(out[at-1]), key(item)) > 0 {
			at--
		}
		out = slices.Insert(out, at, item)
	}
	return out
}

func modelRemove(x api.Datum, items []api.Datum) []api.Datum {
	var out []api.Datum
	for _, item := range items {
		if !same(x, item) {
			out = append(out, item)
		}
	}
	return out
}

func modelMember(x api.Datum, items []api.Datum) string {
	for len(items) > 0 {
		if same(x, items[0]) {
			return told(list(items...), api.OK)
		}
		items = items[1:]
	}
	return "ErrNone"
}

func modelAssoc(x api.Datum, items []api.Datum) string {
	out := "ErrNone"
	for _, item := range slices.Backward(items) {
		if item.Kind == api.Pair && same(item.List[0], x) {
			out = told(item, api.OK)
		}
	}
	if !allPairs(items) {
		return "ErrType"
	}
	return out
}

func allPairs(items []api.Datum) bool {
	n := 0
	for _, item := range items {
		if item.Kind == api.Pair {
			n++
		}
	}
	return n == len(items)
}

// heldToModel: every call of a sound list of these items, and of x, answers as the model does.
func heldToModel(t *testing.T, x api.Datum, items []api.Datum) {
	t.Helper()
	d := list(items...)
	what := " of " + brief(told(x, api.OK)) + " and " + brief(told(d, api.OK))
	isDatum(t, "Of"+what, Of(items), api.OK, d)
	got, e := Items(d)
	is(t, "Items"+what, toldItems(got, e), toldItems(items, api.OK))
	turned := slices.Clone(items)
	slices.Reverse(turned)
	one, e := Reverse(d)
	isDatum(t, "Reverse"+what, one, e, list(turned...))
	for _, n := range []int{0, len(items) / 2, len(items)} {
		one, e = Tail(d, n)
		isDatum(t, "Tail at "+strconv.Itoa(n)+what, one, e, list(items[n:]...))
	}
	is(t, "Tail beyond the end"+what, told(Tail(d, len(items)+1)), "ErrArg")
	is(t, "Member"+what, told(Member(x, d)), modelMember(x, items))
	is(t, "Assoc"+what, told(Assoc(x, d)), modelAssoc(x, items))
	one, e = Remove(x, d)
	isDatum(t, "Remove"+what, one, e, list(modelRemove(x, items)...))
	one, e = Sort(d)
	isDatum(t, "Sort"+what, one, e, list(modelSort(items, func(d api.Datum) api.Datum { return d })...))
	one, e = SortBy(d)
	if !allPairs(items) {
		is(t, "SortBy"+what, told(one, e), "ErrType")
		return
	}
	isDatum(t, "SortBy"+what, one, e, list(modelSort(items, func(d api.Datum) api.Datum { return d.List[0] })...))
}

// randomItems are some of few data, so that one stands there several times; pairs are most of them, or all.
func randomItems(random *rand.Rand) []api.Datum {
	some := someData()
	few := []api.Datum{sym("a"), sym("b"), whole(1), empty(), some[random.IntN(len(some))]}
	pick := func() api.Datum { return few[random.IntN(len(few))] }
	onlyPairs := random.IntN(2) == 0
	var out []api.Datum
	for range random.IntN(12) {
		if onlyPairs || random.IntN(2) == 0 {
			out = append(out, pair(pick(), pick()))
		} else {
			out = append(out, pick())
		}
	}
	return out
}

// P11.1, P11.2, P11.3: items at random.
func TestRandomLists(t *testing.T) {
	random := rand.New(rand.NewPCG(11, 1))
	for range 4000 {
		items := randomItems(random)
		x := append(items, sym("a"))[random.IntN(len(items)+1)]
		heldToModel(t, x, items)
		if x.Kind == api.Pair {
			heldToModel(t, x.List[0], items)
		}
		if t.Failed() {
			return
		}
	}
}

// P11.1: lists at random, one behind the other, with something at the end or among them that is none.
func TestRandomAppends(t *testing.T) {
	random := rand.New(rand.NewPCG(11, 2))
	for range 4000 {
		var in, items []api.Datum
		want := api.OK
		for range random.IntN(6) {
			some := randomItems(random)
			end := empty()
			if random.IntN(12) == 0 {
				end, want = sym("end"), api.ErrType
			}
			in, items = append(in, dotted(end, some...)), append(items, some...)
		}
		last := someData()[random.IntN(len(someData()))]
		got, e := Append(append(in, last)...)
		if want != api.OK {
			is(t, "Append", told(got, e), "ErrType")
			continue
		}
		isDatum(t, "Append", got, e, dotted(last, items...))
	}
}

func FuzzLists(f *testing.F) {
	for _, s := range []string{"a (a b) a", "() ()", "(1 . 2) (1 . 3) (0 . 1)", "1/2 2/4 \"a\" #(1)", "(a . 1) (b) c", "b a b a", ""} {
		f.Add(s)
	}
	f.Fuzz(func(t *testing.T, s string) {
		items, _, e := datum.All(s)
		if e != api.OK || len(items) == 0 || !datum.Sound(list(items...)) {
			return
		}
		for _, x := range []api.Datum{items[0], items[len(items)-1], sym("a")} {
			heldToModel(t, x, items)
			if x.Kind == api.Pair {
				heldToModel(t, x.List[0], items)
			}
		}
		half := len(items) / 2
		got, e := Append(list(items[:half]...), list(items[half:]...))
		isDatum(t, "Append", got, e, list(items...))
	})
}
