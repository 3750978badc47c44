package datum

import (
	"unicode/utf8"

	"sextant/api"
	"sextant/exact"
)

// fits: is it within the limits of size and depth?
func fits(d api.Datum) bool {
	left := api.MaxNodes
	return fitsAt(&d, 1, &left)
}

// fitsAt takes the nodes off those that are left. It goes down to so many depths and nodes and no further, so it ends whatever the lists are.
func fitsAt(d *api.Datum, depth int, left *int) bool {
	*left--
	if *left < 0 || depth > api.MaxDepth {
		return false
	}
	for i := range d.List {
		below := depth + 1
		if d.Kind == api.Pair && i == 1 {
			below = depth
		}
		if !fitsAt(&d.List[i], below, left) {
			return false
		}
	}
	return true
}

func soundThroughout(d api.Datum) bool {
	if !soundByKind(d) {
		return false
	}
	for _, item := range d.List {
		if !soundThroughout(item) {
			return false
		}
	}
	return true
}

// soundByKind takes away what the kind names, if it is as it should be: then nothing may be left.
func soundByKind(d api.Datum) bool {
	ok := true
	switch d.Kind {
	case api.Nil, api.Void:
	case api.Bool:
		ok, d.N = d.N == 0 || d.N == 1, 0
	case api.Number:
		ok, d.Num = exact.Sound(d.Num), api.Num{}
	case api.Char:
		ok, d.N = isCharacter(d.N), 0
	case api.String, api.Symbol, api.Other:
		ok, d.Text = utf8.ValidString(d.Text), ""
	case api.Bytes:
		d.Raw = nil
	case api.Pair:
		ok, d.List = len(d.List) == 2, nil
	case api.Vector:
		d.List = nil
	default:
		ok = false
	}
	return ok && bare(d)
}

// isCharacter looks at both ends ahead of making a rune of it, which would cut off what is beyond.
func isCharacter(n int) bool {
	return n >= 0 && n <= utf8.MaxRune && utf8.ValidRune(rune(n))
}

// bare: has it nothing beside its kind?
func bare(d api.Datum) bool {
	return d.N == 0 && wordless(d.Num.Re) && wordless(d.Num.Im) && d.Text == "" && len(d.Raw) == 0 && len(d.List) == 0
}

func wordless(r api.Rat) bool {
	return !r.Neg && len(r.Top) == 0 && len(r.Bot) == 0
}
