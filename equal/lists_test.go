package equal

import (
	"testing"

	"sextant/api"
)

// P10.2: pairs by the first, then the second, also where they go opposite ways.
func TestPairs(t *testing.T) {
	some := []api.Datum{empty(), boolean(0), whole(-1), whole(2), char('a'), str("b"), sym("a"), raw(3), pair(whole(1), whole(2)), list(whole(1), whole(2)), list(whole(2)), vector(), vector(whole(9)), vector(whole(1), whole(1)), void(), other("a")}
	rise(t, some...)
	var data []api.Datum
	for _, first := range some {
		for _, second := range some {
			data = append(data, pair(first, second))
		}
	}
	rise(t, data...)
	riseAnywhere(t, pair(whole(1), whole(1)), pair(whole(1), whole(2)), pair(whole(2), whole(1)), pair(whole(2), whole(2)))
	riseAnywhere(t, list(empty()), list(whole(1)), pair(whole(1), whole(0)), list(whole(1), whole(0)), list(whole(1), whole(0), whole(0)), list(whole(1), whole(1)), list(whole(2)), list(list(whole(0))), list(vector()))
}

// P10.2: long lists that differ at their end, in their end, and in how many items they have.
func TestLongLists(t *testing.T) {
	long := func(last ...api.Datum) []api.Datum { return append(repeated(sym("a"), 9990), last...) }
	rise(t,
		list(long()...),
		dotted(whole(1), long()...),
		dotted(whole(2), long()...),
		list(long(whole(1))...),
		list(long(whole(1), whole(0))...),
		list(long(whole(2))...),
		list(long(sym("a"))...),
		list(long(sym("b"))...),
		dotted(vector(), long()...),
	)
	compares(t, list(append([]api.Datum{whole(1)}, long(whole(2))...)...), list(append([]api.Datum{whole(2)}, long(whole(1))...)...), -1)
}

// P10.2: vectors: the shorter first, whatever its items are; then by the first item that differs.
func TestVectors(t *testing.T) {
	riseAnywhere(t,
		vector(), vector(empty()), vector(whole(1)), vector(whole(2)), vector(other("z")),
		vector(empty(), empty()), vector(whole(1), whole(1)), vector(whole(1), whole(2)), vector(whole(2), whole(1)), vector(whole(2), whole(2)), vector(other("z"), other("z")),
		vector(empty(), empty(), empty()), vector(whole(1), whole(1), whole(3)), vector(whole(1), whole(2), whole(2)), vector(whole(1), whole(3), whole(1)), vector(whole(2), whole(1), whole(1)),
		vector(empty(), empty(), empty(), empty()),
	)
	digits := func(n int) api.Datum {
		return vector(whole(int64(n/27%3)), whole(int64(n/9%3)), whole(int64(n/3%3)), whole(int64(n%3)))
	}
	var data []api.Datum
	for n := range 81 {
		data = append(data, digits(n))
	}
	rise(t, data...)
	long := repeated(sym("a"), 5000)
	rise(t, vector(long...), vector(append([]api.Datum{sym("b")}, long[1:]...)...), vector(append(long[:5000:5000], empty())...), vector(append(long[:5000:5000], sym("a"))...))
}

// P10.2: what differs deep down tells, and only if nothing ahead of it does.
func TestDeepDown(t *testing.T) {
	for _, around := range []func(d api.Datum) api.Datum{
		func(d api.Datum) api.Datum { return list(d) },
		func(d api.Datum) api.Datum { return pair(d, sym("a")) },
		func(d api.Datum) api.Datum { return vector(d) },
		func(d api.Datum) api.Datum { return vector(sym("a"), d, sym("a")) },
		func(d api.Datum) api.Datum { return list(sym("quote"), d) },
		func(d api.Datum) api.Datum { return pair(whole(1), vector(d)) },
	} {
		deep := func(d api.Datum) api.Datum {
			for range 150 {
				d = around(d)
			}
			return d
		}
		rise(t, deep(empty()), deep(whole(1)), deep(whole(2)), deep(str("a")), deep(str("b")), deep(pair(empty(), whole(1))), deep(vector()))
		compares(t, vector(deep(whole(1)), whole(2)), vector(deep(whole(2)), whole(1)), -1)
		compares(t, pair(deep(whole(2)), whole(1)), pair(deep(whole(1)), whole(2)), 1)
		compares(t, pair(whole(1), deep(whole(2))), pair(whole(2), deep(whole(1))), -1)
	}
}

// wide are data of so many nodes, of several forms, each with that item at the end.
func wide(nodes int, last api.Datum) map[string]api.Datum {
	a := sym("a")
	return map[string]api.Datum{
		"a vector":             vector(append(repeated(a, nodes-2), last)...),
		"a list in a vector":   vector(append(repeated(a, nodes%2), list(append(repeated(a, nodes/2-2), last)...))...),
		"a list with a vector": dotted(vector(append(repeated(a, nodes%2), last)...), repeated(a, nodes/2-1)...),
		"vectors":              vector(append(append(repeated(vector(repeated(a, 99)...), 199), repeated(a, nodes-19902)...), last)...),
	}
}

// count is how many nodes a datum has.
func count(d api.Datum) int {
	n := 1
	for _, item := range d.List {
		n += count(item)
	}
	return n
}

// P10.1, P10.2, P10.3: MaxNodes nodes are told apart; one more is nothing.
func TestMostNodes(t *testing.T) {
	for what, a := range wide(mostNodes, whole(1)) {
		b := wide(mostNodes, whole(2))[what]
		if count(a) != mostNodes || count(b) != mostNodes {
			t.Fatalf("%s: the test has laid %d nodes", what, count(a))
		}
		rise(t, a, b)
	}
	for what, a := range wide(mostNodes+1, whole(1)) {
		if count(a) != mostNodes+1 {
			t.Fatalf("%s: the test has laid %d nodes", what, count(a))
		}
		isNothing(t, what+" of too many nodes", a)
		isNothing(t, what+" of too many nodes", vector(vector(), a))
	}
}

// ways lead one node down.
func ways() map[string]func(d api.Datum) api.Datum {
	return map[string]func(d api.Datum) api.Datum{
		"firsts":           func(d api.Datum) api.Datum { return list(d) },
		"firsts of dotted": func(d api.Datum) api.Datum { return pair(d, sym("a")) },
		"second items":     func(d api.Datum) api.Datum { return list(sym("quote"), d) },
		"vectors":          func(d api.Datum) api.Datum { return vector(d) },
		"last items":       func(d api.Datum) api.Datum { return vector(empty(), empty(), d) },
		"long lists":       func(d api.Datum) api.Datum { return dotted(list(d), repeated(sym("b"), 40)...) },
	}
}

// P10.1, P10.2, P10.3: MaxDepth nodes on a way are told apart; one more is nothing.
func TestDeepest(t *testing.T) {
	for what, around := range ways() {
		a, b := whole(1), whole(2)
		for range deepest - 1 {
			a, b = around(a), around(b)
		}
		rise(t, a, b)
		isNothing(t, what+", too deep", around(a))
		isNothing(t, what+", too deep as a cdr", pair(empty(), around(a)))
		compares(t, pair(sym("a"), a), pair(sym("a"), b), -1) // a second is not counted
	}
}
