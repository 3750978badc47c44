package record

import (
	"sextant/api"
	"sextant/datum"
)

// record is its type's number, and a value for each field: those of the first parent first, the type's own last.
type record struct {
	kind   int
	values []api.Datum
}

// checkRecord: the error of a call that asks for record r.
func (s *Store) checkRecord(r int) api.Errno {
	switch {
	case s == nil:
		return api.ErrArg
	case r < 0 || r >= len(s.records):
		return api.ErrNone
	}
	return api.OK
}

// place: where among a record's values type t's own field number i stands.
func (s *Store) place(r, t, i int) (int, api.Errno) {
	is, e := s.Is(r, t)
	switch {
	case e != api.OK:
		return 0, e
	case !is:
		return 0, api.ErrType
	case i < 0 || i >= len(s.types[t].Fields):
		return 0, api.ErrArg
	}
	return s.count(s.types[t].Parent) + i, api.OK
}

func isUnsound(d api.Datum) bool {
	return !datum.Sound(d)
}
