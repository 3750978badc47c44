package imports

import (
	"math/rand"
	"slices"
	"strconv"
	"testing"

	"sextant/api"
	"sextant/datum"
)

// drawn tells what is done by bytes, one after the other; 0, when there are no more.
type drawn struct{ bytes []byte }

func (d *drawn) next(below int) int {
	if len(d.bytes) == 0 {
		return 0
	}
	b := int(d.bytes[0])
	d.bytes = d.bytes[1:]
	return b % below
}

// seldom is true once in some thirty times.
func (d *drawn) seldom() bool { return d.next(32) == 31 }

func (d *drawn) word(text string) string {
	all := words(text)
	return all[d.next(len(all))]
}

func (d *drawn) name() string { return d.word("x y z w x y px py v q") }

func (d *drawn) names(most int) []string {
	var out []string
	for range d.next(most + 1) {
		out = append(out, d.name())
	}
	return out
}

// several are as many data as are drawn, at most that many.
func (d *drawn) several(most int, draw func() api.Datum) []api.Datum {
	var out []api.Datum
	for range d.next(most + 1) {
		out = append(out, draw())
	}
	return out
}

func (d *drawn) number() api.Datum {
	if d.seldom() {
		return one(d.word("-1 2147483647 2147483648 1/2 3/1 +i 18446744073709551617 x"))
	}
	return one(strconv.Itoa(d.next(4)))
}

func (d *drawn) sub(budget int) api.Datum {
	pick := d.next(8)
	switch {
	case budget == 0 || pick < 3:
		return d.number()
	case pick < 5:
		return list(sym(d.word(">= <=")), d.number())
	}
	return d.logic(func() api.Datum { return d.sub(budget - 1) })
}

func (d *drawn) logic(part func() api.Datum) api.Datum {
	if d.next(3) == 0 {
		return list(sym("not"), part())
	}
	return list(append([]api.Datum{sym(d.word("and or"))}, d.several(3, part)...)...)
}

func (d *drawn) reference(budget int) api.Datum {
	if budget == 0 || d.next(3) == 0 {
		return list(d.several(3, func() api.Datum { return d.sub(2) })...)
	}
	return d.logic(func() api.Datum { return d.reference(budget - 1) })
}

// behind is a name's end: nothing, or a list.
func (d *drawn) behind(last func() api.Datum) []api.Datum {
	if d.next(2) == 0 {
		return nil
	}
	return []api.Datum{last()}
}

func (d *drawn) symbol() api.Datum { return sym(d.name()) }

func (d *drawn) inner() api.Datum {
	name := append([]api.Datum{sym(d.word("a b c rnrs a b only for library"))}, d.several(2, d.symbol)...)
	return list(append(name, d.behind(func() api.Datum { return d.reference(2) })...)...)
}

func (d *drawn) pair() api.Datum { return list(d.symbol(), d.symbol()) }

func (d *drawn) set(budget int) api.Datum {
	if budget == 0 {
		return d.inner()
	}
	inside := func() api.Datum { return d.set(budget - 1) }
	switch d.next(7) {
	case 0:
		return list(append([]api.Datum{sym(d.word("only except")), inside()}, d.several(3, d.symbol)...)...)
	case 1:
		return list(append([]api.Datum{sym("except"), inside()}, d.several(3, d.symbol)...)...)
	case 2:
		return list(sym("prefix"), inside(), d.symbol())
	case 3:
		return list(append([]api.Datum{sym("rename"), inside()}, d.several(3, d.pair)...)...)
	case 4:
		return list(append([]api.Datum{sym("for"), inside()}, d.several(2, d.odd)...)...)
	case 5:
		return list(sym("library"), d.inner())
	}
	return d.inner()
}

func (d *drawn) export() api.Datum {
	if d.next(3) == 0 {
		return list(append(read("rename"), d.several(3, d.pair)...)...)
	}
	return d.symbol()
}

func (d *drawn) version() api.Datum { return list(d.several(3, d.number)...) }

func (d *drawn) library() api.Datum {
	name := append([]api.Datum{sym(d.word("a b only"))}, d.several(2, d.symbol)...)
	head := []api.Datum{
		sym("library"), list(append(name, d.behind(d.version)...)...),
		list(append(read("export"), d.several(3, d.export)...)...),
		list(append(read("import"), d.several(3, func() api.Datum { return d.set(2) })...)...),
	}
	return list(append(head, d.several(3, d.odd)...)...)
}

// odd is any datum, seldom one that is not sound.
func (d *drawn) odd() api.Datum {
	if d.seldom() {
		return []api.Datum{{}, sym("\xff"), {Kind: api.Pair}, {Kind: api.Number}, list(api.Datum{})}[d.next(5)]
	}
	data := read("x y only (x) (x y) (x y z) () (1) 1 0 \"x\" #\\x #t #(x) #vu8(1) (x . y) (only) (and) (or 1) (>= 1) (a (1)) (rename (x y)) 1/2 library export")
	return data[d.next(len(data))]
}

// altered is the datum as it is, mostly, or one that differs in one place.
func (d *drawn) altered(given api.Datum, budget int) api.Datum {
	if given.Kind != api.Pair || d.next(8) == 1 || budget == 0 {
		return d.odd()
	}
	first, second := given.List[0], given.List[1]
	switch d.next(8) {
	case 1:
		return second
	case 2:
		return api.Datum{Kind: api.Pair, List: []api.Datum{d.odd(), given}}
	case 3, 4:
		first = d.altered(first, budget-1)
	default:
		second = d.altered(second, budget-1)
	}
	return api.Datum{Kind: api.Pair, List: []api.Datum{first, second}}
}

func (d *drawn) perhaps(given api.Datum) api.Datum {
	if d.next(3) > 0 {
		return given
	}
	return d.altered(given, 6)
}

func (d *drawn) bindings() []api.Binding {
	var out []api.Binding
	for _, name := range d.names(5) {
		if d.seldom() || len(withName(out, name)) == 0 {
			out = append(out, api.Binding{Name: name, Of: d.word("f g " + name)})
		}
	}
	return out
}

// made is an import that is mostly as Read makes them.
func (d *drawn) made(budget int) api.Import {
	i := api.Import{Kind: d.next(5), Names: d.names(3)}
	if budget == 0 || i.Kind == 0 {
		inner := library(d.word("a b c d a b c rnrs"), "()")
		if d.next(6) == 1 {
			inner.Ref = d.reference(1)
		}
		if d.seldom() && d.seldom() {
			inner.Of = []api.Import{{}}
		}
		return inner
	}
	i.Of = []api.Import{d.made(budget - 1)}
	switch {
	case i.Kind == 3 && !d.seldom():
		i.Names = []string{"p"}
	case i.Kind == 4 && !d.seldom():
		i.Names = append(i.Names, d.names(len(i.Names))...)
		i.Names = i.Names[:len(i.Names)/2*2]
	}
	switch {
	case d.seldom() && d.seldom():
		i.Kind = []int{-1, 5, 9, maxInt}[d.next(4)]
	case d.seldom() && d.seldom():
		i.Of = append(i.Of, d.made(0))
	}
	return i
}

func (d *drawn) imports(most int) []api.Import {
	var out []api.Import
	for range d.next(most + 1) {
		out = append(out, d.made(2))
	}
	return out
}

func (d *drawn) numbers() []int {
	var out []int
	for range d.next(4) {
		out = append(out, d.next(3))
	}
	if d.next(16) == 1 {
		out = append(out, -1)
	}
	return out
}

// libs are libraries of which each mostly needs later ones, which are mostly there.
func (d *drawn) libs() []api.Library {
	var out []api.Library
	for i := range 1 + d.next(7) {
		lib := api.Library{Name: words([]string{"a", "b", "c", "d", "rnrs", "a", "b", "c"}[i])}
		if d.next(4) == 1 || i > 3 {
			lib.Version = d.numbers()
		}
		if d.next(10) == 1 {
			lib.Version = append(lib.Version, -1)
		}
		if d.seldom() {
			lib.Name = words("a")
		}
		for _, set := range d.imports(3) {
			inside, e := plainInside(set)
			if d.next(16) == 1 || e != api.OK || inside.Name[0] > lib.Name[0] {
				lib.Imports = append(lib.Imports, set)
			}
		}
		out = append(out, lib)
	}
	return out
}

// tally counts what came of calls, so that a test sees that all of it was drawn.
type tally map[string]int

func (all tally) count(call string, e api.Errno) { all[call+" "+strconv.Itoa(int(e))]++ }

func (all tally) forms(t *testing.T, d *drawn) {
	t.Helper()
	given := d.perhaps(d.set(3))
	i, e := plainRead(given)
	all.count("Read", e)
	if e != api.OK {
		noRead(t, given, e)
	} else {
		reads(t, given, i)
	}
	given = d.perhaps(d.library())
	l, e := plainLibrary(given)
	all.count("Library", e)
	if e != api.OK {
		noLibrary(t, given, e)
	} else {
		makes(t, given, l)
	}
}

func (all tally) versions(t *testing.T, d *drawn) {
	t.Helper()
	ref := d.perhaps(d.reference(3))
	fitting, ok := plainReference(ref)
	for i, v := range append(small[:len(small):len(small)], d.numbers()) {
		switch {
		case !datum.Sound(ref):
			noVersion(t, v, ref, api.ErrForm)
		case !ok:
			noVersion(t, v, ref, api.ErrForms)
		case i < len(small):
			fits(t, v, ref, fitting[i])
		case slices.Contains(v, -1):
			noVersion(t, v, ref, api.ErrArg)
		}
	}
	all["Version of "+strconv.FormatBool(ok)]++
	if slices.Contains(fitting, true) && slices.Contains(fitting, false) {
		all["Version of both"]++
	}
}

func (all tally) bindings(t *testing.T, d *drawn) {
	t.Helper()
	i, exports := d.made(3), d.bindings()
	want, e := plainNames(i, exports)
	all.count("Names", e)
	if e != api.OK {
		noNames(t, i, exports, e)
	} else {
		names(t, i, exports, want)
	}
	var given [][]api.Binding
	for range d.next(4) {
		given = append(given, d.bindings())
	}
	want, e = plainMerge(given...)
	all.count("Merge", e)
	if e != api.OK {
		noMerge(t, given...)
	} else {
		merges(t, want, given...)
	}
}

func (all tally) order(t *testing.T, d *drawn) {
	t.Helper()
	libs, imports := d.libs(), d.imports(3)
	want, e := plainOrder(libs, imports)
	all.count("Order", e)
	if len(want) > 2 {
		all["Order of many"]++
	}
	for _, at := range want {
		if slices.ContainsFunc(libs[:at], func(l api.Library) bool { return slices.Equal(l.Name, libs[at].Name) && slices.Contains(l.Version, -1) }) {
			all["Order past strange"]++
		}
	}
	if e != api.OK {
		noOrder(t, libs, imports, e)
	} else {
		orders(t, libs, imports, want...)
	}
}

func (all tally) step(t *testing.T, data []byte) {
	t.Helper()
	all.forms(t, &drawn{bytes: data})
	all.versions(t, &drawn{bytes: data})
	all.bindings(t, &drawn{bytes: data})
	all.order(t, &drawn{bytes: data})
}

// P18.1 to P18.6: drawn data, sets, bindings and libraries answer what the tests' own calls do.
func TestDrawn(t *testing.T) {
	r := rand.New(rand.NewSource(18))
	all := tally{}
	for range 4000 {
		data := make([]byte, 400)
		r.Read(data)
		all.step(t, data)
		if t.Failed() {
			return
		}
	}
	for _, outcome := range []string{
		"Read 0", "Read 2", "Read 12", "Version of true", "Version of false", "Version of both", "Names 0", "Names 8", "Names 12", "Names 13", "Merge 0", "Merge 8",
		"Library 0", "Library 2", "Library 8", "Library 12", "Order 0", "Order 7", "Order 8", "Order 12", "Order 14", "Order of many", "Order past strange",
	} {
		if all[outcome] < 20 {
			t.Errorf("%s was drawn %d times alone", outcome, all[outcome])
		}
	}
	t.Log(all)
}

func FuzzImports(f *testing.F) {
	r := rand.New(rand.NewSource(81))
	for range 5 {
		data := make([]byte, 300)
		r.Read(data)
		f.Add(data)
	}
	f.Fuzz(func(t *testing.T, data []byte) { tally{}.step(t, data) })
}
