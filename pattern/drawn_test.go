package pattern

import (
	"math/rand"
	"slices"
	"strconv"
	"testing"

	"sextant/api"
)

// drawn tells what is done by bytes, one after the other; 0, when there are no more.
type drawn struct {
	bytes []byte
	names int // of variables that have been drawn
}

func (d *drawn) next(below int) int {
	if len(d.bytes) == 0 {
		return 0
	}
	b := int(d.bytes[0])
	d.bytes = d.bytes[1:]
	return b % below
}

// seldom is true once in some thirty times.
func (d *drawn) seldom() bool { return d.next(32) == 31 }

func (d *drawn) datum() api.Datum {
	if d.seldom() && d.next(8) == 7 {
		return []api.Datum{{}, sym("\xff"), {Kind: api.Pair}, {Kind: api.Number}, list(api.Datum{})}[d.next(5)]
	}
	data := read("1 2 else => a b () (1) (1 2) (a . b) #() #(1) #(a (b)) \"s\" #\\c #t #vu8(1) ((1 2) (3)) (else 1) _ ... (1 ...)")
	return data[d.next(len(data))]
}

// pattern is one that is seldom at fault, with else and => as literals.
func (d *drawn) pattern(budget int) api.Datum {
	switch pick := d.next(10); {
	case d.seldom():
		return read("... v0 (...) (a ... ...)")[d.next(4)]
	case pick == 1:
		return sym("_")
	case pick == 2:
		return read("else => 1 \"s\" #t ()")[d.next(6)]
	case pick < 6 || budget == 0:
		d.names++
		return sym("v" + strconv.Itoa(d.names-1))
	}
	var row []api.Datum
	for range d.next(4) {
		row = append(row, d.pattern(budget-1))
	}
	if len(row) > 0 && d.next(3) > 0 {
		row = slices.Insert(row, 1+d.next(len(row)), sym("..."))
	}
	if d.seldom() {
		row = slices.Insert(row, d.next(len(row)+1), sym("..."))
	}
	if len(row) > 0 && d.next(4) == 1 {
		return dotted(d.pattern(budget-1), row...)
	}
	return []api.Datum{list(row...), list(row...), vector(row...)}[d.next(3)]
}

// fitting is a datum that matches a pattern, mostly.
func (d *drawn) fitting(p api.Datum) api.Datum {
	if d.seldom() {
		return d.datum()
	}
	switch {
	case p.Kind == api.Symbol && p.Text != "else" && p.Text != "=>":
		return d.datum()
	case p.Kind != api.Pair && p.Kind != api.Vector:
		return p
	}
	row, end := spread(p)
	var out []api.Datum
	for i, part := range row {
		count := 1
		if i+1 < len(row) && isDots(row[i+1]) {
			count = d.next(4)
		}
		if isDots(part) || d.seldom() {
			count = 0
		}
		for range count {
			out = append(out, d.fitting(part))
		}
	}
	if p.Kind == api.Vector {
		return vector(out...)
	}
	return dotted(d.fitting(end), out...)
}

// value is small, mostly, or so large or deep that a few of them are too much.
func (d *drawn) value() api.Datum {
	switch d.next(128) {
	case 1, 2:
		return sized([]int{20, 6000, 9997, 9998, 9999, 10000, 19990, 19998, 19999, 20000}[d.next(10)])
	case 3, 4, 5:
		return nested(one("1"), []int{2, 190, 194, 195, 196, 197, 198, 199}[d.next(8)])
	}
	return d.datum()
}

func (d *drawn) match(name string, depth int) api.Match {
	m := api.Match{Name: name, Depth: depth}
	if d.seldom() && d.seldom() {
		m.Depth += d.next(5) - 2
	}
	if depth == 0 {
		m.Value = d.value()
		return m
	}
	count := 2
	if d.next(4) == 1 {
		count = d.next(4)
	}
	for range count {
		m.List = append(m.List, d.match(name, depth-1))
	}
	return m
}

func (d *drawn) matches() []api.Match {
	var out []api.Match
	for range d.next(6) {
		out = append(out, d.match(string(rune('a'+d.next(6))), []int{0, 1, 1, 2, 2, 3}[d.next(6)]))
	}
	return out
}

func dots(count int) []api.Datum { return times(sym("..."), max(count, 0)) }

// row is of a template that stands in so many items with an ellipsis behind them.
func (d *drawn) row(m []api.Match, under, budget int) []api.Datum {
	var out []api.Datum
	for range 1 + d.next(3) {
		out = append(out, d.part(m, under, budget)...)
	}
	return out
}

// part is an item, with its ellipses behind it, of which there are seldom too few or too many.
func (d *drawn) part(m []api.Match, under, budget int) []api.Datum {
	if d.seldom() {
		return read("... x (x ...) (...) (... x y)")[d.next(5):]
	}
	pick := d.next(8)
	switch {
	case pick == 1:
		return read("x 1 (... ...) #() ()")[:1+d.next(2)]
	case pick == 2:
		return []api.Datum{list(sym("..."), d.template(m, under, 0))}
	case pick < 6 || budget == 0:
		if len(m) == 0 {
			return read("y")
		}
		match := m[d.next(len(m))]
		count := match.Depth - under
		if d.seldom() {
			count += d.next(3) - 1
		}
		return append([]api.Datum{sym(match.Name)}, dots(count)...)
	}
	more := []int{0, 0, 1, 1, 2}[d.next(5)]
	return append([]api.Datum{d.template(m, under+more, budget)}, dots(more)...)
}

func (d *drawn) template(m []api.Match, under, budget int) api.Datum {
	if budget == 0 {
		return d.part(m, under, 0)[0]
	}
	row := d.row(m, under, budget-1)
	switch d.next(5) {
	case 1:
		return vector(row...)
	case 2:
		return dotted(d.template(m, under, 0), row...)
	}
	return list(row...)
}

// tally counts what came of calls, so that a test sees that all of it was drawn.
type tally map[string]int

func (all tally) findings(t *testing.T, d *drawn) []api.Match {
	t.Helper()
	literals := [][]string{words("else =>"), nil, words("else v1"), words("_ else"), words("...")}[max(0, d.next(40)-35)]
	p := d.pattern(3)
	vars, e := plainPattern(p, literals)
	if e != api.OK {
		noVars(t, p, literals, e)
	} else if got, f := Vars(p, literals); f != api.OK || !slices.EqualFunc(got, vars, alikeMatch) {
		t.Errorf("Vars(%s, %q): %s, error %d; want %s", brief(p), literals, tell(got), f, tell(vars))
	}
	given := d.fitting(p)
	m, e := plainFind(p, literals, given)
	all["Find "+strconv.Itoa(int(e))]++
	if e != api.OK {
		noFind(t, p, literals, given, e)
		return nil
	}
	finds(t, p, literals, given, m...)
	if rebuilds(p, literals) {
		all["rebuilt"]++
		fills(t, p, m, given)
	}
	return m
}

// rebuilds: does a pattern keep all of what it matches, with a variable under each ellipsis?
func rebuilds(p api.Datum, literals []string) bool {
	row, _ := spread(p)
	for i, part := range row {
		vars, _ := plainVars(part, literals, 0)
		if i+1 < len(row) && isDots(row[i+1]) && len(vars) == 0 {
			return false
		}
	}
	return !mentions(p, "_") && !slices.ContainsFunc(p.List, func(part api.Datum) bool { return !rebuilds(part, literals) })
}

func (all tally) filling(t *testing.T, template api.Datum, m []api.Match) {
	t.Helper()
	want, e := plainFill(template, m)
	all["Fill "+strconv.Itoa(int(e))]++
	if e != api.OK {
		noFill(t, template, m, e)
		return
	}
	fills(t, template, m, want)
}

func (all tally) step(t *testing.T, data []byte) {
	t.Helper()
	d := &drawn{bytes: data}
	found := all.findings(t, d)
	all.filling(t, d.template(found, 0, 3), found)
	m := d.matches()
	all.filling(t, d.template(m, 0, 3), m)
}

// P17.1 to P17.3: drawn patterns, data, templates and matches answer what the tests' own calls do.
func TestDrawn(t *testing.T) {
	r := rand.New(rand.NewSource(17))
	all := tally{}
	for range 6000 {
		data := make([]byte, 400)
		r.Read(data)
		all.step(t, data)
		if t.Failed() {
			return
		}
	}
	for _, outcome := range []string{"Find 0", "Find 2", "Find 12", "Find 15", "Fill 0", "Fill 2", "Fill 4", "Fill 12", "Fill 15", "rebuilt"} {
		if all[outcome] < 20 {
			t.Errorf("%s was drawn %d times alone", outcome, all[outcome])
		}
	}
	t.Log(all)
}

func FuzzRules(f *testing.F) {
	r := rand.New(rand.NewSource(71))
	for range 5 {
		data := make([]byte, 300)
		r.Read(data)
		f.Add(data)
	}
	f.Fuzz(func(t *testing.T, data []byte) { tally{}.step(t, data) })
}
