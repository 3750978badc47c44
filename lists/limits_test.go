package lists

import (
	"strconv"
	"testing"

	"sextant/api"
)

// itemsOfNodes are so many items of which the list has so many nodes in all: atoms, and one vector for what is left.
func itemsOfNodes(t *testing.T, n, nodes int) []api.Datum {
	t.Helper()
	items := append(repeated(sym("a"), n-1), vector(repeated(sym("b"), nodes-2*n-1)...))
	if got := count(list(items...)); got != nodes {
		t.Fatalf("the test has laid %d nodes, not %d", got, nodes)
	}
	return items
}

// P11.1: Of up to MaxNodes nodes, and of one more.
func TestOfManyNodes(t *testing.T) {
	for _, n := range []int{1, 2, 100, 5000, 9998, 9999} {
		for _, nodes := range []int{mostNodes - 1, mostNodes} {
			items := itemsOfNodes(t, n, nodes)
			isDatum(t, "Of "+strconv.Itoa(nodes)+" nodes", Of(items), api.OK, list(items...))
		}
		for _, nodes := range []int{mostNodes + 1, mostNodes + 2} {
			is(t, "Of "+strconv.Itoa(nodes)+" nodes", nothing(Of(itemsOfNodes(t, n, nodes))), "nothing")
		}
	}
	isDatum(t, "Of 9999 items", Of(repeated(sym("a"), 9999)), api.OK, list(repeated(sym("a"), 9999)...))
	for _, n := range []int{10000, 10001, mostNodes - 1, mostNodes, mostNodes + 1, 1000000} {
		is(t, "Of "+strconv.Itoa(n)+" items", nothing(Of(repeated(sym("a"), n))), "nothing")
	}
	largest := vector(repeated(empty(), mostNodes-1)...)
	is(t, "Of one that is as large as can be", nothing(Of([]api.Datum{largest})), "nothing")
	is(t, "Of many that share memory", nothing(Of(repeated(largest, mostNodes))), "nothing")
}

func nothing(d api.Datum) string {
	if same(d, api.Datum{}) {
		return "nothing"
	}
	return told(d, api.OK)
}

// deep are data of so many levels, each by another way down.
func deep(levels int) []api.Datum {
	ways := []func(d api.Datum) api.Datum{
		func(d api.Datum) api.Datum { return vector(d) },
		func(d api.Datum) api.Datum { return list(d) },
		func(d api.Datum) api.Datum { return pair(d, sym("a")) },
		func(d api.Datum) api.Datum { return list(sym("a"), d, sym("b")) },
		func(d api.Datum) api.Datum { return pair(sym("a"), vector(d)) },
	}
	var out []api.Datum
	for _, around := range ways {
		d := sym("a")
		for range levels - 1 {
			d = around(d)
		}
		out = append(out, d)
	}
	return out
}

// P11.1: Of an item of MaxDepth - 1 levels, and of one more.
func TestOfDeepItems(t *testing.T) {
	for _, d := range deep(deepest - 1) {
		for _, items := range [][]api.Datum{{d}, {sym("a"), d}, {d, sym("a")}, {d, d}} {
			isDatum(t, "Of deep items", Of(items), api.OK, list(items...))
		}
	}
	for _, d := range deep(deepest) {
		for _, items := range [][]api.Datum{{d}, {sym("a"), d}, {d, sym("a")}, {d, d}} {
			is(t, "Of items that are too deep", nothing(Of(items)), "nothing")
		}
		got, e := Append(d)
		isDatum(t, "Append of one that is as deep", got, e, d)
	}
}

// P11.1: Append up to MaxNodes nodes, and ErrLarge of one more, wherever they come from.
func TestAppendManyNodes(t *testing.T) {
	cut := func(items []api.Datum, places ...int) []api.Datum {
		var out []api.Datum
		from := 0
		for _, to := range append(places, len(items)) {
			out = append(out, list(items[from:to]...))
			from = to
		}
		return out
	}
	for _, n := range []int{4, 100, 5000, 9998, 9999} {
		for _, places := range [][]int{{1}, {n - 1}, {n}, {0}, {n / 2}, {1, 2, 3}, {n / 4, n / 2, n / 2, n}} {
			items := itemsOfNodes(t, n, mostNodes)
			got, e := Append(cut(items, places...)...)
			isDatum(t, "Append of MaxNodes nodes", got, e, list(items...))
			items = itemsOfNodes(t, n, mostNodes+1)
			if in := cut(items, places...); count(in[len(in)-1]) <= mostNodes && count(in[0]) <= mostNodes {
				is(t, "Append of MaxNodes + 1 nodes", told(Append(in...)), "ErrLarge")
			}
		}
	}
}

// P11.1: the last datum's nodes count, be it a list or not; of one alone, and behind Nil, there is nothing to add.
func TestAppendToLargeOnes(t *testing.T) {
	for _, spare := range []int{0, 1, 2, 3, 4} {
		tail := vector(repeated(empty(), mostNodes-1-spare)...)
		got, e := Append(tail)
		isDatum(t, "Append of one", got, e, tail)
		got, e = Append(empty(), empty(), tail)
		isDatum(t, "Append behind ()", got, e, tail)
		for items := 1; items < 4; items++ {
			ahead := list(repeated(sym("a"), items)...)
			got, e := Append(ahead, tail)
			if 2*items <= spare {
				isDatum(t, "Append ahead of a large one", got, e, dotted(tail, repeated(sym("a"), items)...))
			} else {
				is(t, "Append ahead of a large one", told(got, e), "ErrLarge")
			}
		}
	}
}

// P11.1: ErrLarge comes last, and however often one list stands among the others.
func TestAppendFarTooMany(t *testing.T) {
	large := list(repeated(sym("a"), 9999)...)
	for _, n := range []int{2, 3, 10, 60} {
		is(t, "Append of large ones", told(Append(repeated(large, n)...)), "ErrLarge")
		is(t, "Append of large ones and ()", told(Append(append(repeated(large, n), empty())...)), "ErrLarge")
		is(t, "Append of large ones and what is none behind them", told(Append(append(repeated(large, n), sym("a"), empty())...)), "ErrType")
		is(t, "Append of large ones and what is dotted behind them", told(Append(append(repeated(large, n), read("(1 . 2)"), large)...)), "ErrType")
		is(t, "Append of large ones behind what is none", told(Append(append([]api.Datum{sym("a")}, repeated(large, n)...)...)), "ErrType")
	}
	got, e := Append(append(repeated(empty(), 50000), large)...)
	isDatum(t, "Append of very many ()", got, e, large)
}

// P11.1: an answer of Append is no deeper than what it was made of: MaxDepth levels stay.
func TestAppendDeepOnes(t *testing.T) {
	for _, d := range deep(deepest) {
		got, e := Append(list(sym("a"), sym("b")), d)
		isDatum(t, "Append ahead of a deep one", got, e, dotted(d, sym("a"), sym("b")))
		if d.Kind != api.Pair {
			is(t, "Append behind a deep one", told(Append(d, empty())), "ErrType")
		}
	}
	for _, d := range deep(deepest - 1) {
		got, e := Append(list(d, sym("a")), list(d), d)
		isDatum(t, "Append of deep items", got, e, dotted(d, d, sym("a"), d))
	}
	for _, d := range deep(deepest + 1) {
		is(t, "Append of one that is too deep", told(Append(d)), "ErrForm")
		is(t, "Append ahead of one that is too deep", told(Append(list(sym("a")), d)), "ErrForm")
	}
}

// P11.1, P11.2, P11.3: the other calls take lists of MaxNodes nodes and of MaxDepth levels, and never answer ErrLarge; of one more they answer ErrForm.
func TestLargestLists(t *testing.T) {
	for _, n := range []int{1, 100, 9999} {
		heldToModel(t, vector(sym("b"), sym("a")), itemsOfNodes(t, n, mostNodes))
		heldToModel(t, sym("a"), itemsOfNodes(t, n, mostNodes))
		refused(t, list(itemsOfNodes(t, n, mostNodes+1)...))
	}
	pairs := repeated(pair(sym("a"), sym("b")), 4999)
	heldToModel(t, sym("a"), pairs)
	refused(t, list(append(pairs, pair(sym("c"), sym("d")))...))
	for i, d := range deep(deepest - 1) {
		heldToModel(t, d, []api.Datum{sym("b"), d, sym("a"), d})
		heldToModel(t, d, []api.Datum{pair(sym("b"), sym("a")), pair(sym("a"), d), pair(sym("a"), sym("b"))})
		refused(t, list(deep(deepest)[i]))
	}
}

// refused: every call of a list answers ErrForm.
func refused(t *testing.T, d api.Datum) {
	t.Helper()
	for _, c := range append(unary(), binary()...) {
		is(t, c.name+" of what is beyond a limit", told(c.of(sym("a"), d)), "ErrForm")
	}
	is(t, "Append of what is beyond a limit", told(Append(d)), "ErrForm")
	is(t, "Append of what is beyond a limit", told(Append(empty(), d, empty())), "ErrForm")
}
