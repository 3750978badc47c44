package cond

import (
	"slices"

	"sextant/api"
)

// none is the parent of the type that has none.
const none = -1

// The types that calls ask for by themselves.
const (
	typeCondition = 0
	typeMessage   = 1
	typeSerious   = 3
	typeError     = 4
	typeAssertion = 6
	typeIrritants = 7
	typeWho       = 8
)

// kind is what a type is: its name, its parent's number, and how many fields it has of its own.
type kind struct {
	name   string
	parent int
	own    int
}

// kindOf: the type of a number.
func kindOf(t int) (kind, api.Errno) {
	kinds := [...]kind{
		{"condition", none, 0},
		{"message", 0, 1},
		{"warning", 0, 0},
		{"serious", 0, 0},
		{"error", 3, 0},
		{"violation", 3, 0},
		{"assertion", 5, 0},
		{"irritants", 0, 1},
		{"who", 0, 1},
		{"non-continuable", 5, 0},
		{"implementation-restriction", 5, 0},
		{"lexical", 5, 0},
		{"syntax", 5, 2},
		{"undefined", 5, 0},
		{"i/o", 4, 0},
		{"i/o-read", 14, 0},
		{"i/o-write", 14, 0},
		{"i/o-filename", 14, 1},
		{"i/o-file-does-not-exist", 17, 0},
		{"i/o-file-already-exists", 17, 0},
	}
	if t < 0 || t >= len(kinds) {
		return kind{}, api.ErrNone
	}
	return kinds[t], api.OK
}

func isType(t int) bool {
	_, e := kindOf(t)
	return e == api.OK
}

// chain: a type, its parent, the parent's parent and so on. It ends, since in the table each parent stands ahead of what comes from it.
func chain(t int) []int {
	var out []int
	for t != none {
		out = append(out, t)
		one, _ := kindOf(t) // t is a type, and a parent is none or a type
		t = one.parent
	}
	return out
}

// isUnder: is t the type of, or has it that one among its parents?
func isUnder(t, of int) bool {
	return slices.Contains(chain(t), of)
}

// fieldCount: how many fields a type has with its parents'.
func fieldCount(t int) int {
	n := 0
	for _, link := range chain(t) {
		one, _ := kindOf(link)
		n += one.own
	}
	return n
}
