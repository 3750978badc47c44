package pattern

import (
	"slices"
	"strings"

	"sextant/api"
	"sextant/equal"
	"sextant/fresh"
)

// The functions below take sound data, and patterns without a fault.

func (ids identifiers) matches(p, d api.Datum) bool {
	for p.Kind == api.Pair {
		if behind, ok := ids.behindEllipsis(p); ok {
			count := pairs(d) - pairs(behind)
			if count < 0 {
				return false
			}
			items, rest := cut(d, count)
			isOther := func(item api.Datum) bool { return !ids.matches(p.List[0], item) }
			if slices.ContainsFunc(items, isOther) {
				return false
			}
			p, d = behind, rest
			continue
		}
		if d.Kind != api.Pair || !ids.matches(p.List[0], d.List[0]) {
			return false
		}
		p, d = p.List[1], d.List[1]
	}
	switch p.Kind {
	case api.Symbol:
		return ids.symbolMatches(p.Text, d)
	case api.Vector:
		return d.Kind == api.Vector && ids.matches(linked(p.List, end()), linked(d.List, end()))
	}
	return equal.Equal(p, d)
}

func (ids identifiers) symbolMatches(text string, d api.Datum) bool {
	if !ids.isLiteral(text) {
		return true
	}
	return d.Kind == api.Symbol && ids.isSame(text, d.Text)
}

// gather puts what a pattern's variables have matched behind what is found already. It is known that d matches: so nothing is laid down for what does not, which could be far more than either of them.
func (ids identifiers) gather(p, d api.Datum, found []api.Match) []api.Match {
	for p.Kind == api.Pair {
		if behind, ok := ids.behindEllipsis(p); ok {
			items, rest := cut(d, pairs(d)-pairs(behind))
			found = append(found, ids.gatherEach(p.List[0], items)...)
			p, d = behind, rest
			continue
		}
		found = ids.gather(p.List[0], d.List[0], found)
		p, d = p.List[1], d.List[1]
	}
	switch p.Kind {
	case api.Symbol:
		if ids.isVariable(p.Text) {
			return append(found, api.Match{Name: strings.Clone(p.Text), Value: fresh.Datum(d)})
		}
	case api.Vector:
		return ids.gather(linked(p.List, end()), linked(d.List, end()), found)
	}
	return found
}

// gatherEach: what the variables of a pattern have matched in each of the items.
func (ids identifiers) gatherEach(p api.Datum, items []api.Datum) []api.Match {
	look := survey{identifiers: ids} // since there are variables, even if there are no items
	look.walk(p, 1)
	for _, item := range items {
		for i, match := range ids.gather(p, item, nil) {
			look.found[i].List = append(look.found[i].List, match)
		}
	}
	return look.found
}
