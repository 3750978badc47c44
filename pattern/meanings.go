package pattern

import (
	"sextant/api"
	"sextant/datum"
)

// isUnsound: the Value counts at depth 0 alone, since it is nothing elsewhere. Depths go down to 0, so this ends even with a List that holds itself.
func isUnsound(match api.Match) bool {
	if match.Depth < 0 || match.Depth == 0 && !datum.Sound(match.Value) {
		return true
	}
	for _, item := range match.List {
		if item.Depth != match.Depth-1 || isUnsound(item) {
			return true
		}
	}
	return false
}

// meanings tells what the symbols of a template are. In a part of it other functions may tell it otherwise.
type meanings struct {
	isEllipsis func(text string) bool
	matchOf    func(text string) *api.Match // nil, if it is no variable
}

// standingFor: of matches with one name the first counts.
func standingFor(m []api.Match) meanings {
	vars := map[string]*api.Match{}
	for i := range m {
		if vars[m[i].Name] == nil {
			vars[m[i].Name] = &m[i]
		}
	}
	return meanings{isEllipsis: isEllipsis}.with(vars)
}

func (s meanings) with(vars map[string]*api.Match) meanings {
	s.matchOf = func(text string) *api.Match { return vars[text] }
	return s
}

// withoutEllipsis: the same, but that ellipses mean nothing special.
func (s meanings) withoutEllipsis() meanings {
	s.isEllipsis = func(string) bool { return false }
	return s
}

func (s meanings) isEllipsisItem(d api.Datum) bool {
	return d.Kind == api.Symbol && s.isEllipsis(d.Text)
}

// ellipsesAt: how many a row of items begins with.
func (s meanings) ellipsesAt(items []api.Datum) int {
	n := 0
	for n < len(items) && s.isEllipsisItem(items[n]) {
		n++
	}
	return n
}

// escaped: T, if a pair begins the list (... T).
func (s meanings) escaped(pair api.Datum) (api.Datum, bool) {
	rest := pair.List[1]
	if !s.isEllipsisItem(pair.List[0]) || rest.Kind != api.Pair || rest.List[1].Kind != api.Nil {
		return api.Datum{}, false
	}
	return rest.List[0], true
}

// gather puts the variables of a template into vars.
func (s meanings) gather(t api.Datum, vars map[string]*api.Match) {
	switch t.Kind {
	case api.Symbol:
		match := s.matchOf(t.Text)
		if match != nil && !s.isEllipsis(t.Text) {
			vars[t.Text] = match
		}
	case api.Pair:
		if inner, ok := s.escaped(t); ok {
			s.withoutEllipsis().gather(inner, vars)
			return
		}
		items, last := cut(t, pairs(t))
		for _, item := range append(items, last) {
			s.gather(item, vars)
		}
	case api.Vector:
		for _, item := range t.List {
			s.gather(item, vars)
		}
	}
}

// rounds: how many items the Lists of the variables have.
func rounds(vars map[string]*api.Match) (int, api.Errno) {
	count, e := 0, api.ErrForms
	for _, match := range vars {
		switch {
		case match.Depth == 0:
		case e == api.ErrForms: // the first with a List
			count, e = len(match.List), api.OK
		case len(match.List) != count: // with some it is so, whichever is the first
			return 0, api.ErrMatch
		}
	}
	return count, e
}

// inRound: the variables, those with a List standing for its item i.
func inRound(vars map[string]*api.Match, i int) map[string]*api.Match {
	out := map[string]*api.Match{}
	for name, match := range vars {
		if match.Depth > 0 {
			match = &match.List[i]
		}
		out[name] = match
	}
	return out
}
