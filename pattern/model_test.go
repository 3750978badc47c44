package pattern

import (
	"slices"

	"sextant/api"
	"sextant/datum"
)

// The model takes lists apart into rows, and goes by places in them.

func isDots(d api.Datum) bool { return alike(d, sym("...")) }

// spread is the row that a list or a vector is, and what stands at its end.
func spread(d api.Datum) ([]api.Datum, api.Datum) {
	if d.Kind == api.Vector {
		return d.List, empty()
	}
	var row []api.Datum
	for d.Kind == api.Pair {
		row, d = append(row, d.List[0]), d.List[1]
	}
	return row, d
}

func isVariable(d api.Datum, literals []string) bool {
	return d.Kind == api.Symbol && d.Text != "..." && d.Text != "_" && !slices.Contains(literals, d.Text)
}

// plainVars are a pattern's variables, and whether it is without a fault but for names that stand twice.
func plainVars(p api.Datum, literals []string, depth int) ([]api.Match, bool) {
	if isVariable(p, literals) {
		return []api.Match{{Name: p.Text, Depth: depth}}, true
	}
	if p.Kind != api.Pair && p.Kind != api.Vector {
		return nil, !isDots(p)
	}
	row, end := spread(p)
	dots := slices.IndexFunc(row, isDots)
	if dots == 0 || dots > 0 && slices.ContainsFunc(row[dots+1:], isDots) {
		return nil, false
	}
	var all []api.Match
	ok := true
	for i, part := range append(slices.Clone(row), end) {
		if i == dots {
			continue
		}
		below := depth
		if i == dots-1 && dots > 0 {
			below++
		}
		more, fine := plainVars(part, literals, below)
		all, ok = append(all, more...), ok && fine
	}
	return all, ok
}

func plainPattern(p api.Datum, literals []string) ([]api.Match, api.Errno) {
	if !datum.Sound(p) {
		return nil, api.ErrForm
	}
	all, ok := plainVars(p, literals, 0)
	for i, a := range all {
		for _, b := range all[:i] {
			ok = ok && a.Name != b.Name
		}
	}
	if !ok || slices.Contains(literals, "...") || slices.Contains(literals, "_") {
		return nil, api.ErrForms
	}
	return all, api.OK
}

// plainMatch is what each variable of a pattern without a fault has matched.
func plainMatch(p api.Datum, literals []string, d api.Datum) ([]api.Match, bool) {
	switch {
	case isVariable(p, literals):
		return []api.Match{{Name: p.Text, Value: d}}, true
	case p.Kind == api.Symbol:
		return nil, p.Text == "_" || alike(p, d)
	case p.Kind == api.Vector && d.Kind != api.Vector:
		return nil, false
	case p.Kind != api.Pair && p.Kind != api.Vector:
		return nil, alike(p, d)
	}
	row, end := spread(p)
	data, last := spread(d)
	if p.Kind == api.Pair && d.Kind == api.Vector { // no pairs, and that at the end
		data, last = nil, d
	}
	dots := slices.IndexFunc(row, isDots)
	if dots < 0 {
		if len(data) < len(row) {
			return nil, false
		}
		rest := dotted(last, data[len(row):]...)
		return plainRows(append(slices.Clone(row), end), literals, append(slices.Clone(data[:len(row)]), rest))
	}
	some := len(data) - (len(row) - 2)
	if some < 0 {
		return nil, false
	}
	ahead, ok := plainRows(row[:dots-1], literals, data[:dots-1]) // there are as many, since some are not below 0
	under, fine := plainEach(row[dots-1], literals, data[dots-1:dots-1+some])
	behind, good := plainRows(append(slices.Clone(row[dots+1:]), end), literals, append(slices.Clone(data[dots-1+some:]), last))
	return slices.Concat(ahead, under, behind), ok && fine && good
}

func plainRows(row []api.Datum, literals []string, data []api.Datum) ([]api.Match, bool) {
	var all []api.Match
	ok := true
	for i, p := range row {
		m, fine := plainMatch(p, literals, data[i])
		all, ok = append(all, m...), ok && fine
	}
	return all, ok
}

func plainEach(p api.Datum, literals []string, data []api.Datum) ([]api.Match, bool) {
	all, ok := plainVars(p, literals, 1)
	for _, d := range data {
		m, fine := plainMatch(p, literals, d)
		ok = ok && fine
		for i := range all {
			if ok {
				all[i].List = append(all[i].List, m[i])
			}
		}
	}
	return all, ok
}

func plainFind(p api.Datum, literals []string, d api.Datum) ([]api.Match, api.Errno) {
	if !datum.Sound(d) {
		return nil, api.ErrForm
	}
	if _, e := plainPattern(p, literals); e != api.OK {
		return nil, e
	}
	m, ok := plainMatch(p, literals, d)
	if !ok {
		return nil, api.ErrMatch
	}
	return m, api.OK
}

// plainly is an outcome that is laid down. An error is panicked with.
type plainly struct{ nodes int }

func (w *plainly) lay(d api.Datum) api.Datum {
	w.nodes++
	if w.nodes > mostNodes {
		panic(api.ErrLarge)
	}
	return d
}

func (w *plainly) whole(d api.Datum) api.Datum {
	for range nodeCount(d) {
		w.lay(d)
	}
	return d
}

func (w *plainly) fill(t api.Datum, m []api.Match, dots bool) api.Datum {
	row, end := spread(t)
	switch {
	case dots && isDots(t):
		panic(api.ErrForms)
	case t.Kind == api.Symbol:
		return w.symbol(t, m)
	case t.Kind == api.Pair && dots && len(row) == 2 && end.Kind == api.Nil && isDots(row[0]):
		return w.fill(row[1], m, false)
	case t.Kind != api.Pair && t.Kind != api.Vector:
		return w.lay(t)
	}
	var out []api.Datum
	for at := 0; at < len(row); {
		item, behind := row[at], 0
		for at++; dots && at < len(row) && isDots(row[at]); at++ {
			behind++
		}
		plainRounds(item, m, behind, func(m []api.Match) { out = append(out, w.fill(item, m, dots)) })
	}
	if t.Kind == api.Vector {
		return w.lay(vector(out...))
	}
	last := w.fill(end, m, dots)
	for range out {
		w.lay(last)
	}
	return dotted(last, out...)
}

func named(m []api.Match, text string) int {
	return slices.IndexFunc(m, func(match api.Match) bool { return match.Name == text })
}

func (w *plainly) symbol(t api.Datum, m []api.Match) api.Datum {
	at := named(m, t.Text)
	switch {
	case at < 0:
		return w.lay(t)
	case m[at].Depth > 0:
		panic(api.ErrForms)
	}
	return w.whole(m[at].Value)
}

func mentions(t api.Datum, text string) bool {
	return alike(t, sym(text)) || slices.ContainsFunc(t.List, func(part api.Datum) bool { return mentions(part, text) })
}

// plainRounds does something with the matches of each round of an item with so many ellipses behind it.
func plainRounds(item api.Datum, m []api.Match, ellipses int, do func(m []api.Match)) {
	if ellipses == 0 {
		do(m)
		return
	}
	var lengths, places []int
	for i, match := range m {
		if match.Depth > 0 && named(m, match.Name) == i && mentions(item, match.Name) {
			lengths, places = append(lengths, len(match.List)), append(places, i)
		}
	}
	switch {
	case len(lengths) == 0:
		panic(api.ErrForms)
	case slices.Min(lengths) != slices.Max(lengths):
		panic(api.ErrMatch)
	}
	for round := range lengths[0] {
		inside := slices.Clone(m)
		for _, i := range places {
			inside[i] = m[i].List[round]
			inside[i].Name = m[i].Name
		}
		plainRounds(item, inside, ellipses-1, do)
	}
}

func plainSound(m api.Match) bool {
	ok := m.Depth > 0 || m.Depth == 0 && datum.Sound(m.Value)
	for _, item := range m.List {
		ok = ok && item.Depth+1 == m.Depth && plainSound(item)
	}
	return ok
}

func plainFill(t api.Datum, m []api.Match) (d api.Datum, e api.Errno) {
	for _, match := range m {
		if !plainSound(match) {
			return api.Datum{}, api.ErrForm
		}
	}
	if !datum.Sound(t) {
		return api.Datum{}, api.ErrForm
	}
	defer func() {
		if met := recover(); met != nil {
			d, e = api.Datum{}, met.(api.Errno)
		}
	}()
	d = (&plainly{}).fill(t, m, true)
	if levels(d) > deepest {
		panic(api.ErrLarge)
	}
	return d, api.OK
}
