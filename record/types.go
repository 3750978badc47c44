package record

import (
	"slices"
	"strings"

	"sextant/api"
	"sextant/enum"
	"sextant/fresh"
)

// none is the Parent of a type that has none.
const none = -1

// checkType: the error of a call that asks for type t.
func (s *Store) checkType(t int) api.Errno {
	switch {
	case s == nil:
		return api.ErrArg
	case t < 0 || t >= len(s.types):
		return api.ErrNone
	}
	return api.OK
}

// allows: may a type be so, whatever limits there are?
func (s *Store) allows(t api.Rtd) bool {
	return len(t.Mutable) == len(t.Fields) && !anyTwice(t.Fields) && (t.Parent == none || s.checkType(t.Parent) == api.OK)
}

// anyTwice leans on a set of symbols, which is refused for a name that stands twice ahead of being refused for its size.
func anyTwice(names []string) bool {
	_, e := enum.New(names...)
	return e == api.ErrTwice
}

// withUid: the number of the type that has a uid, or -1. Types without one are never the same.
func (s *Store) withUid(uid string) int {
	if uid == "" {
		return -1
	}
	return slices.IndexFunc(s.types, func(t api.Rtd) bool { return t.Uid == uid })
}

// again: what is answered, if t is handed in with the uid of a type that is known.
func (s *Store) again(known int, t api.Rtd) (int, api.Errno) {
	if !same(s.types[known], t) {
		return 0, api.ErrTwice
	}
	return known, api.OK
}

func same(a, b api.Rtd) bool {
	return a.Name == b.Name && a.Parent == b.Parent && slices.Equal(a.Fields, b.Fields) && slices.Equal(a.Mutable, b.Mutable) &&
		a.Sealed == b.Sealed && a.Opaque == b.Opaque && a.Uid == b.Uid
}

// chain: a type, its parent, the parent's parent and so on; nothing for none. It ends, since a parent is there ahead of what comes from it.
func (s *Store) chain(t int) []int {
	var out []int
	for t != none {
		out = append(out, t)
		t = s.types[t].Parent
	}
	return out
}

// count: how many fields a type has with its parents'.
func (s *Store) count(t int) int {
	n := 0
	for _, link := range s.chain(t) {
		n += len(s.types[link].Fields)
	}
	return n
}

// isOpaque: is the type opaque, or one of its parents?
func (s *Store) isOpaque(t int) bool {
	return slices.ContainsFunc(s.chain(t), func(link int) bool { return s.types[link].Opaque })
}

func freshType(t api.Rtd) api.Rtd {
	return api.Rtd{
		Name:    strings.Clone(t.Name),
		Parent:  t.Parent,
		Fields:  fresh.Texts(t.Fields),
		Mutable: fresh.List(t.Mutable),
		Sealed:  t.Sealed,
		Opaque:  t.Opaque,
		Uid:     strings.Clone(t.Uid),
	}
}
