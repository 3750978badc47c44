package table

import (
	"sextant/api"
	"sextant/chars"
	"sextant/exact"
)

// The kinds of a table, by what makes keys one.
const (
	byTree  = 1
	byFold  = 2
	byDigit = 3
)

func isKind(kind int) bool {
	return kind == byTree || kind == byFold || kind == byDigit
}

// mark: what a sound key is found by. Two keys of a table of that kind are one, just if their marks are Equal.
func mark(kind int, key api.Datum) (api.Datum, api.Errno) {
	switch kind {
	case byFold:
		return foldMark(key)
	case byDigit:
		return digitMark(key)
	}
	return key, api.OK
}

func foldMark(key api.Datum) (api.Datum, api.Errno) {
	if key.Kind != api.String {
		return api.Datum{}, api.ErrType
	}
	return api.Datum{Kind: api.String, Text: chars.Fold(key.Text)}, api.OK
}

func digitMark(key api.Datum) (api.Datum, api.Errno) {
	if key.Kind != api.Number || !exact.Whole(key.Num) {
		return api.Datum{}, api.ErrType
	}
	_, rest, e := exact.DivMod(key.Num, exact.Int(10)) // no error: the quotient is no longer than the number
	return api.Datum{Kind: api.Number, Num: rest}, e
}
