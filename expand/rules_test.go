package expand

import (
	"math/rand"
	"slices"
	"strconv"
	"testing"

	"sextant/api"
	"sextant/datum"
	"sextant/pattern"
)

// rules draws patterns, what fits them, and templates, as package pattern takes them.
type rules struct {
	drawn
	vars  int
	heavy bool // some data are so large that a few of them are too much
}

// patternOf is one that is seldom at fault.
func (d *rules) patternOf(budget int) api.Datum {
	switch pick := d.next(10); {
	case d.seldom():
		return read("... v0 (...) (a ... ...)")[d.next(4)]
	case pick == 1:
		return sym("_")
	case pick == 2:
		return read("else => 1 \"s\" #t ()")[d.next(6)]
	case pick < 6 || budget == 0:
		d.vars++
		return sym("v" + strconv.Itoa(d.vars-1))
	}
	return d.listOf(budget)
}

func (d *rules) listOf(budget int) api.Datum {
	var row []api.Datum
	for range d.next(4) {
		row = append(row, d.patternOf(budget-1))
	}
	if len(row) > 0 && d.next(3) > 0 {
		row = slices.Insert(row, 1+d.next(len(row)), sym("..."))
	}
	if d.seldom() {
		row = slices.Insert(row, d.next(len(row)+1), sym("..."))
	}
	if len(row) > 0 && d.next(4) == 1 {
		return dotted(d.patternOf(budget-1), row...)
	}
	return []api.Datum{list(row...), list(row...), vectorDatum(row...)}[d.next(3)]
}

func (d *rules) datum() api.Datum {
	data := read("1 2 else => a b () (1) (1 2) (a . b) #() #(1) #(a (b)) \"s\" #\\c #t #vu8(1) ((1 2) (3)) (else 1) _ ... (1 ...)")
	if d.heavy && d.next(2) == 1 {
		return vectorDatum(times(one("1"), 12000)...)
	}
	return data[d.next(len(data))]
}

// fitting is a datum that matches a pattern, mostly.
func (d *rules) fitting(p api.Datum) api.Datum {
	switch {
	case d.seldom(), p.Kind == api.Symbol && p.Text != "else" && p.Text != "=>":
		return d.datum()
	case p.Kind != api.Pair && p.Kind != api.Vector:
		return p
	}
	items, end := p.List, empty()
	if p.Kind == api.Pair {
		items, end = nil, p
		for ; end.Kind == api.Pair; end = end.List[1] {
			items = append(items, end.List[0])
		}
	}
	var out []api.Datum
	for i, item := range items {
		count := 1
		if i+1 < len(items) && items[i+1].Text == "..." {
			count = d.next(4)
		}
		if item.Text == "..." || d.seldom() {
			count = 0
		}
		for range count {
			out = append(out, d.fitting(item))
		}
	}
	if p.Kind == api.Vector {
		return vectorDatum(out...)
	}
	return dotted(d.fitting(end), out...)
}

// template has the variables mostly under as many ellipses as they need.
func (d *rules) template(m []api.Match, under, budget int) api.Datum {
	var out []api.Datum
	for range 1 + d.next(3) {
		pick := d.next(8)
		switch {
		case d.seldom():
			out = append(out, read("... (x ...) (...) (... x y)")[d.next(4)])
		case pick == 1:
			out = append(out, read("x 1 (... ...) #() () _")[d.next(6)])
		case pick == 2 && budget > 0:
			out = append(out, list(sym("..."), d.template(m, under, 0)))
		case (pick < 5 || budget == 0) && len(m) > 0:
			match := m[d.next(len(m))]
			for range 4 { // most of those that are under too few ellipses are passed by
				if match.Depth < under {
					match = m[d.next(len(m))]
				}
			}
			count := match.Depth - under
			if d.seldom() {
				count++
			}
			out = append(append(out, sym(match.Name)), times(sym("..."), max(0, count))...)
		case budget > 0:
			more := []int{0, 1, 1, 1, 2}[d.next(5)]
			out = append(append(out, d.template(m, under+more, budget-1)), times(sym("..."), more)...)
		}
	}
	switch d.next(4) {
	case 1:
		return vectorDatum(out...)
	case 2:
		return dotted(sym("end"), out...)
	}
	return list(out...)
}

// ruleStep holds one rule and one use against package pattern.
func (all tally) ruleStep(t *testing.T, data []byte) {
	t.Helper()
	d := &rules{drawn: drawn{bytes: data}}
	d.heavy = d.next(16) == 15
	literals := [][]string{{"else", "=>"}, nil, {"else", "v1"}, {"_"}, {"..."}}[max(0, d.next(40)-35)]
	p := d.patternOf(3)
	given := list(d.fitting(p))
	p = list(p)
	vars, fault := pattern.Vars(p, literals)
	template := list(sym("quote"), d.template(vars, 0, 3))
	found, miss := pattern.Find(p, literals, given)
	want, gap := pattern.Fill(template, found)
	if fault != api.OK {
		vars, found = nil, nil
	}
	var words []api.Datum
	for _, literal := range literals {
		words = append(words, sym(literal))
	}
	forms := []api.Datum{list(sym("define-syntax"), sym("m"), list(sym("syntax-rules"), list(words...), list(dotted(p, sym("_")), template))), dotted(given, sym("m"))}
	if !datum.Sound(forms[1]) {
		return
	}
	cores, at, e := scope(t).Forms(forms)
	place, outcome := 1, api.OK
	switch {
	case fault != api.OK:
		place, outcome = 0, api.ErrForms
	case miss != api.OK:
		outcome = api.ErrForms
	case gap == api.ErrLarge:
		outcome = api.ErrLarge
	case gap != api.OK:
		outcome = api.ErrForms
	default:
		place = 0
	}
	all[strconv.Itoa(int(fault))+" "+strconv.Itoa(int(miss))+" "+strconv.Itoa(int(gap))]++
	if e != outcome || at != place {
		t.Errorf("%s: error %d at %d; want error %d at %d", toldForms(forms), e, at, outcome, place)
	}
	if e == api.OK && (len(cores) != 1 || !alike(cores[0].Value, want.List[1].List[0])) {
		t.Errorf("%s: %s", toldForms(forms), brief(toldAll(cores)))
	}
}

func toldForms(forms []api.Datum) string {
	return brief(told(api.Core{Op: api.Const, Value: list(forms...)}))
}

// P19.3: drawn rules match as chapter 17's Find and are filled as its Fill.
func TestRulesAsPatterns(t *testing.T) {
	r := rand.New(rand.NewSource(17))
	all := tally{}
	for range 9000 {
		data := make([]byte, 300)
		r.Read(data)
		all.ruleStep(t, data)
		if t.Failed() {
			return
		}
	}
	for _, outcome := range []string{"0 0 0", "0 0 4", "0 0 12", "0 0 15"} {
		if all[outcome] < 20 {
			t.Errorf("%s was drawn %d times alone", outcome, all[outcome])
		}
	}
	t.Log(all)
}
