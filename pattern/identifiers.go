package pattern

import (
	"slices"
	"strings"

	"sextant/api"
)

func isEllipsis(text string) bool {
	return text == "..."
}

// identifiers tells what the symbols of a pattern are, so that the ways through a pattern hang on nothing of their texts.
type identifiers struct {
	isEllipsis func(text string) bool
	isAny      func(text string) bool // it matches whatever there is
	isLiteral  func(text string) bool
	isSame     func(literal, text string) bool
}

// known: the identifiers of plain data.
func known(literals []string) identifiers {
	times := map[string]int{}
	for _, literal := range literals {
		times[literal]++
	}
	return identifiers{
		isEllipsis: isEllipsis,
		isAny:      func(text string) bool { return text == "_" },
		isLiteral:  func(text string) bool { return times[text] > 0 },
		isSame:     func(literal, text string) bool { return literal == text },
	}
}

// isVariable asks for each thing that a symbol may be instead.
func (ids identifiers) isVariable(text string) bool {
	return !ids.isEllipsis(text) && !ids.isAny(text) && !ids.isLiteral(text)
}

// behindEllipsis: what stands behind the ellipsis that is right behind a pair's first, if there is one.
func (ids identifiers) behindEllipsis(pair api.Datum) (api.Datum, bool) {
	rest := pair.List[1]
	if rest.Kind != api.Pair || rest.List[0].Kind != api.Symbol || !ids.isEllipsis(rest.List[0].Text) {
		return api.Datum{}, false
	}
	return rest.List[1], true
}

// variables: those of a sound pattern, if neither it nor the literals are at fault.
func (ids identifiers) variables(p api.Datum, literals []string) ([]api.Match, api.Errno) {
	isReserved := func(literal string) bool { return ids.isEllipsis(literal) || ids.isAny(literal) }
	look := survey{identifiers: ids}
	look.walk(p, 0)
	if look.fault || anyTwice(look.found) || slices.ContainsFunc(literals, isReserved) {
		return nil, api.ErrForms
	}
	return look.found, api.OK
}

func anyTwice(found []api.Match) bool {
	times := map[string]int{}
	for _, match := range found {
		times[match.Name]++
	}
	return len(times) < len(found)
}

// survey is a walk through a pattern, which gathers its variables from the left.
type survey struct {
	identifiers
	found []api.Match
	fault bool // an ellipsis stands where it may not
}

func (s *survey) walk(p api.Datum, depth int) {
	repeated := false
	for p.Kind == api.Pair { // a loop, since an ellipsis is at fault by what stands ahead of it in its list
		item, rest, below := p.List[0], p.List[1], depth
		if behind, ok := s.behindEllipsis(p); ok {
			s.fault = s.fault || repeated
			rest, below, repeated = behind, depth+1, true
		}
		s.walk(item, below)
		p = rest
	}
	switch p.Kind {
	case api.Symbol:
		s.meet(p.Text, depth)
	case api.Vector:
		s.walk(linked(p.List, end()), depth)
	}
}

func (s *survey) meet(text string, depth int) {
	switch {
	case s.isEllipsis(text): // one that is behind an item is not met, but passed over with the item
		s.fault = true
	case s.isVariable(text):
		s.found = append(s.found, api.Match{Name: strings.Clone(text), Depth: depth})
	}
}
