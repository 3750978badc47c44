package table

import (
	"slices"

	"sextant/api"
	"sextant/datum"
	"sextant/equal"
	"sextant/fresh"
)

// entry is a key, in the form in which it first came, and its value. A map has no order, so each entry knows its place in the order in which keys came.
type entry struct {
	place      int
	key, value api.Datum
}

// spot is where a key is looked for: the hash of its mark, and which of the entries of that hash it is, if it is there.
type spot struct {
	hash uint64
	at   int
}

func (s spot) there() bool {
	return s.at >= 0
}

// find: a key's spot. beside is a value that is handed in with it, which must be sound ahead of all that is asked of the key.
func (t *Table) find(key api.Datum, beside ...api.Datum) (spot, api.Errno) {
	switch {
	case t == nil || !isKind(t.kind): // a table that New has not made is of no kind
		return spot{}, api.ErrArg
	case !datum.Sound(key) || slices.ContainsFunc(beside, isUnsound):
		return spot{}, api.ErrForm
	}
	wanted, e := mark(t.kind, key)
	if e != api.OK {
		return spot{}, e
	}
	hash := equal.Hash(wanted)
	at := slices.IndexFunc(t.entries[hash], func(one entry) bool {
		found, _ := mark(t.kind, one.key) // no error, or it would not have come
		return equal.Equal(wanted, found)
	})
	return spot{hash: hash, at: at}, api.OK
}

func isUnsound(d api.Datum) bool {
	return !datum.Sound(d)
}

// add: a key that is new comes as the last one.
func (t *Table) add(hash uint64, key, value api.Datum) {
	t.last++
	t.count++
	t.entries[hash] = append(t.entries[hash], entry{place: t.last, key: fresh.Datum(key), value: fresh.Datum(value)})
}

func (t *Table) remove(s spot) {
	t.count--
	rest := slices.Delete(t.entries[s.hash], s.at, s.at+1)
	if len(rest) == 0 {
		delete(t.entries, s.hash)
		return
	}
	t.entries[s.hash] = rest
}

func freshEntries(some []entry) []entry {
	out := make([]entry, len(some))
	for i, one := range some {
		out[i] = entry{place: one.place, key: fresh.Datum(one.key), value: fresh.Datum(one.value)}
	}
	return out
}
