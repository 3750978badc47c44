package pattern

import (
	"slices"
	"testing"

	"sextant/api"
)

// sized is a datum of so many nodes.
func sized(nodes int) api.Datum { return vector(times(empty(), nodes-1)...) }

func valued(name string, d api.Datum) api.Match { return api.Match{Name: name, Value: d} }

// P17.3: outcomes of just as many nodes as there may be, and of one more.
func TestMostNodes(t *testing.T) {
	for _, of := range []struct {
		template string
		extra    int // nodes beside those of v
	}{
		{"v", 0}, {"(... v)", 0}, {"#(v)", 1}, {"(v)", 2}, {"(v . x)", 2}, {"(x . v)", 2}, {"(1 . v)", 2}, {"#(v x)", 2}, {"#(#(v))", 2}, {"((v))", 4}, {"(v x)", 4}, {"(x v)", 4}, {"(x y . v)", 4}, {"#(() v)", 2}, {"(... (v ...))", 4}, {"(v (... ...))", 4}, {"(e ... . v)", 0}, {"(e ... v e ...)", 2}, {"#(e ... v)", 1}, {"(s ... . v)", 4}, {"#(s ... v)", 3}, {"(v (s) ...)", 10}, {"('v)", 6},
	} {
		m := bound("e 1 () s 1 (1 2)")
		most := append(m, valued("v", sized(mostNodes-of.extra)))
		d, e := Fill(one(of.template), most)
		if e != api.OK || nodeCount(d) != mostNodes {
			t.Errorf("Fill(%s): error %d, %d nodes", of.template, e, nodeCount(d))
		}
		if of.extra > 0 { // else there is no such Value
			noFill(t, one(of.template), append(m, valued("v", sized(mostNodes-of.extra+1))), api.ErrLarge)
		}
	}
}

func nodeCount(d api.Datum) int {
	n := 1
	for _, item := range d.List {
		n += nodeCount(item)
	}
	return n
}

// P17.3: as many outcomes under an ellipsis as there may be, and one more.
func TestMostItems(t *testing.T) {
	for _, of := range []struct {
		template, outcome string
		count             int
	}{
		{"(a ...)", "list", 9999}, {"#(a ...)", "vector", 19999}, {"(a ... . x)", "dotted", 9999},
	} {
		items := times(one("1"), of.count)
		want := map[string]api.Datum{"list": list(items...), "vector": vector(items...), "dotted": dotted(sym("x"), items...)}[of.outcome]
		fills(t, one(of.template), []api.Match{listed("a", items...)}, want)
		noFill(t, one(of.template), []api.Match{listed("a", append(items, one("1"))...)}, api.ErrLarge)
	}
	fills(t, one("((a) ...)"), []api.Match{listed("a", times(one("1"), 4999)...)}, list(times(list(one("1")), 4999)...))
	noFill(t, one("((a) ...)"), []api.Match{listed("a", times(one("1"), 5000)...)}, api.ErrLarge)
	fills(t, one("#((a) ...)"), []api.Match{listed("a", times(one("1"), 6666)...)}, vector(times(list(one("1")), 6666)...))
	noFill(t, one("#((a) ...)"), []api.Match{listed("a", times(one("1"), 6667)...)}, api.ErrLarge)
}

// P17.3: nodes are laid down from the left, so that ErrLarge is found ahead of an error behind it, and behind one ahead of it.
func TestOrderOfNodes(t *testing.T) {
	for _, of := range []struct {
		template string
		nodes    int // of v
		want     api.Errno
	}{
		{"(v (x ...))", mostNodes, api.ErrForms},
		{"(v 1 (x ...))", mostNodes, api.ErrLarge},
		{"(v 1 (x ...))", mostNodes - 1, api.ErrForms},
		{"(v 1 2 (x ...))", mostNodes - 1, api.ErrLarge},
		{"((x ...) v 1)", mostNodes, api.ErrForms},
		{"(v v (x ...))", mostNodes / 2, api.ErrForms},
		{"(v v (x ...))", mostNodes/2 + 1, api.ErrLarge},
		{"(v v v (x ...))", mostNodes / 2, api.ErrLarge},
		{"(v y (x ...))", mostNodes, api.ErrLarge},
		{"(v () (x ...))", mostNodes, api.ErrLarge},
		{"(v (... ...) (x ...))", mostNodes, api.ErrLarge},
		{"(v e ... (x ...))", mostNodes, api.ErrForms},
		{"(v (e ...) (x ...))", mostNodes, api.ErrLarge},
		{"(v s ... (x ...))", mostNodes - 2, api.ErrForms},
		{"(v s ... (x ...))", mostNodes - 1, api.ErrLarge},
		{"(v (s x ...) ...)", mostNodes, api.ErrLarge},
		{"(v (s (x ...)) ...)", mostNodes - 1, api.ErrForms},
		{"(v ((x ...) s) ...)", mostNodes, api.ErrForms},
		{"(v (s o) ...)", mostNodes, api.ErrMatch},
		{"(v 1 (s o) ...)", mostNodes, api.ErrLarge},
		{"(v . ...)", mostNodes, api.ErrForms},
		{"(v 1 . ...)", mostNodes, api.ErrLarge},
		{"(v s)", mostNodes, api.ErrForms},
		{"(v 1 . s)", mostNodes - 1, api.ErrForms},
		{"#(v ...)", mostNodes, api.ErrForms},
		{"#(v 1 ... 2)", mostNodes, api.ErrForms},
	} {
		m := append(bound("e 1 () s 1 (1 2) o 1 (1)"), valued("v", sized(of.nodes)))
		noFill(t, one(of.template), m, of.want)
	}
}

// P17.3: a list's pairs come behind its items and its end, a vector's node behind its items.
func TestOrderOfPairs(t *testing.T) {
	for _, of := range []struct {
		template string
		nodes    int // of v
		want     api.Errno
	}{
		{"((v) (x ...))", mostNodes - 2, api.ErrForms},
		{"((v) (x ...))", mostNodes - 1, api.ErrLarge},
		{"((v) (x ...))", mostNodes, api.ErrLarge},
		{"((y v) (x ...))", mostNodes - 4, api.ErrForms},
		{"((y v) (x ...))", mostNodes - 3, api.ErrLarge},
		{"((v . y) (x ...))", mostNodes - 2, api.ErrForms},
		{"((v . y) (x ...))", mostNodes - 1, api.ErrLarge},
		{"((v (x ...)) y)", mostNodes, api.ErrForms},
		{"(1 v (x ...))", mostNodes - 1, api.ErrForms},
		{"(1 v (x ...))", mostNodes, api.ErrLarge},
		{"(1 2 v . #(... x))", mostNodes - 2, api.ErrForms},
		{"(1 2 v . #(3 ... x))", mostNodes - 1, api.ErrLarge},
		{"(#(v) (x ...))", mostNodes - 1, api.ErrForms},
		{"(#(v) (x ...))", mostNodes, api.ErrLarge},
		{"#(1 v (x ...))", mostNodes - 1, api.ErrForms},
		{"#(1 v (x ...))", mostNodes, api.ErrLarge},
		{"(v #((x ...)))", mostNodes, api.ErrForms},
		{"(v #() (x ...))", mostNodes, api.ErrLarge},
		{"(v (y . (x ...)))", mostNodes - 1, api.ErrForms},
		{"((s ... . v) (x ...))", mostNodes - 4, api.ErrForms},
		{"((s ... . v) (x ...))", mostNodes - 3, api.ErrLarge},
		{"((v s ...) (x ...))", mostNodes - 6, api.ErrForms},
		{"((v s ...) (x ...))", mostNodes - 5, api.ErrLarge},
	} {
		m := append(bound("s 1 (1 2)"), valued("v", sized(of.nodes)))
		noFill(t, one(of.template), m, of.want)
	}
}

// P17.3: a Value's nodes are laid down each time that it stands there.
func TestValuesAreCounted(t *testing.T) {
	items := times(sized(1000), 30)
	m := []api.Match{listed("a", items...), listed("b", items[:20]...), valued("v", items[0])}
	noFill(t, one("(a ... (x ...))"), m, api.ErrLarge)
	noFill(t, one("(b ... (x ...))"), m, api.ErrForms)
	noFill(t, one("(b ... 1 (x ...))"), m, api.ErrLarge)
	noFill(t, one("((b v) ... (x ...))"), m, api.ErrLarge)
	noFill(t, one("(v b ... (x ...))"), m, api.ErrLarge)
	fills(t, one("#(b ...)"), []api.Match{listed("b", items[:19]...)}, vector(items[:19]...))
	noFill(t, one("#(b ...)"), m, api.ErrLarge)
}

// P17.3: outcomes as deep as they may be, and deeper; ErrLarge by the depth comes at the end.
func TestDeepOutcomes(t *testing.T) {
	for _, of := range []struct {
		template string
		around   int // levels around v
	}{
		{"v", 0}, {"(... v)", 0}, {"(x . v)", 0}, {"(x y . v)", 0}, {"(e ... . v)", 0}, {"(v)", 1}, {"(x v)", 1}, {"(v . x)", 1}, {"#(v)", 1}, {"((x . v))", 1}, {"((v))", 2}, {"(#((v)) x)", 3}, {"(x (... (v)))", 2}, {"((v s) ...)", 2}, {"((s . v) ...)", 1}, {"'v", 1}, {"#(x (v))", 2},
	} {
		template, m := one(of.template), bound("e 1 () s 1 (1 2)")
		d, e := Fill(template, append(m, valued("v", nested(one("1"), deepest-of.around-1))))
		if e != api.OK || levels(d) != deepest {
			t.Errorf("Fill(%s): error %d, %d levels", of.template, e, levels(d))
		}
		if of.around == 0 { // else there is no such Value
			continue
		}
		for _, more := range []int{deepest - of.around, deepest - 1} {
			deep := append(m, valued("v", nested(one("1"), more)))
			noFill(t, template, deep, api.ErrLarge)
			noFill(t, list(template, one("(x ...)")), deep, api.ErrForms)
			noFill(t, list(template, one("((s . e) ...)")), deep, api.ErrMatch)
		}
	}
}

func levels(d api.Datum) int {
	deepestItem := 0
	for i, item := range d.List {
		below := levels(item)
		if d.Kind == api.Pair && i == 1 {
			below--
		}
		deepestItem = max(deepestItem, below)
	}
	return deepestItem + 1
}

// P17.3: templates as deep and as large as they may be.
func TestDeepTemplates(t *testing.T) {
	template := nested(sym("v"), deepest-1)
	fills(t, template, bound("v 0 5"), nested(one("5"), deepest-1))
	fills(t, template, bound("v 0 ()"), nested(empty(), deepest-1))
	noFill(t, template, bound("v 0 (1)"), api.ErrLarge)
	noFill(t, template, bound("v 1 (1)"), api.ErrForms)
	noFill(t, vector(template), bound("v 0 5"), api.ErrForm)
	repeated, m := sym("v"), one("5")
	for range deepest - 1 {
		repeated, m = vector(repeated, sym("...")), list(m)
	}
	fills(t, repeated, []api.Match{matched("v", deepest-1, m)}, nested(one("5"), deepest-1))
	many := list(append(times(sym("v"), mostNodes/2-2), one("5"))...)
	fills(t, many, bound("v 0 5"), list(times(one("5"), mostNodes/2-1)...))
	noFill(t, many, bound("v 0 (5)"), api.ErrLarge)
	noFill(t, vector(times(sym("..."), mostNodes-1)...), bound("v 0 5"), api.ErrForms)
}

// P17.3: as many ellipses behind one item as Lists stand in one another, and one more.
func TestManyEllipses(t *testing.T) {
	const count = 5000
	m := valued("v", one("5"))
	for level := range count {
		m = api.Match{Name: "v", Depth: level + 1, List: []api.Match{m}}
	}
	template := append([]api.Datum{sym("v")}, times(sym("..."), count)...)
	fills(t, list(template...), []api.Match{m}, one("(5)"))
	fills(t, vector(template...), []api.Match{m}, one("#(5)"))
	noFill(t, list(append(template, sym("..."))...), []api.Match{m}, api.ErrForms)
	noFill(t, list(template[1:]...), []api.Match{m}, api.ErrForms)
	noFill(t, list(template[:count]...), []api.Match{m}, api.ErrForms)
}

// R8: what would be far too large is given up in time.
func TestFarTooLarge(t *testing.T) {
	items := listed("a", times(one("1"), 1000)...).List
	m := []api.Match{{Name: "a", Depth: 2}, listed("b", times(one("1"), 1000)...), listed("c", times(sized(mostNodes), 20)...)}
	for range 1000 {
		m[0].List = append(m[0].List, api.Match{Name: "a", Depth: 1, List: items})
	}
	noFill(t, one("(a ... ...)"), m, api.ErrLarge)
	noFill(t, one("((a ...) ...)"), m, api.ErrLarge)
	noFill(t, one("((b a ...) ...)"), m, api.ErrLarge)
	noFill(t, one("(c ...)"), m, api.ErrLarge)
	noFill(t, list(slices.Repeat(read("b ..."), 4999)...), m, api.ErrLarge)
}
