package datum

import (
	"slices"
	"strings"
	"unicode/utf8"

	"sextant/api"
	"sextant/exact"
)

// reader goes through a text; at is the place that it has come to.
type reader struct {
	text  string
	at    int
	large bool // a number that is too large has been read: this is told only if all else is right
}

// fault is what a reader panics with where the text is at fault, and nobody else does.
type fault struct{}

// must gives the text up, from however deep inside, unless that holds.
func must(holds bool) {
	if !holds {
		panic(fault{})
	}
}

// first: the datum that a text of any length begins with.
func first(s string) (d api.Datum, end int, e api.Errno) {
	defer func() {
		thrown := recover()
		if thrown == nil {
			return
		}
		if _, own := thrown.(fault); !own {
			panic(thrown)
		}
		d, end, e = api.Datum{}, 0, api.ErrText
	}()
	r := reader{text: s}
	r.skip()
	if r.rest() == "" {
		return api.Datum{}, 0, api.ErrEnd
	}
	d = r.datum()
	must(utf8.ValidString(s[:r.at])) // remarks have been passed whatever their bytes
	if r.large || !fits(d) {
		return api.Datum{}, 0, api.ErrLarge
	}
	return d, r.at, api.OK
}

func (r *reader) rest() string {
	return r.text[r.at:]
}

// take: does that stand here? If so, it is passed.
func (r *reader) take(token string) bool {
	if !strings.HasPrefix(r.rest(), token) {
		return false
	}
	r.at += len(token)
	return true
}

// next takes one character.
func (r *reader) next() rune {
	c, width := utf8.DecodeRuneInString(r.rest())
	must(width > 0)
	r.at += width
	return c
}

// datum reads the one that begins right here.
func (r *reader) datum() api.Datum {
	switch {
	case r.take("("):
		return r.list(")")
	case r.take("["):
		return r.list("]")
	case r.take("#("):
		return api.Datum{Kind: api.Vector, List: r.items(")")}
	case r.take("#vu8("):
		return api.Datum{Kind: api.Bytes, Raw: r.bytes(")")}
	case r.take("'"):
		r.skip()
		return quoted(r.datum())
	case r.take(`"`):
		return api.Datum{Kind: api.String, Text: r.quotation()}
	}
	return r.word()
}

// more: does anything stand ahead of the end? If not, the end is passed.
func (r *reader) more(end string) bool {
	r.skip()
	return !r.take(end)
}

func (r *reader) items(end string) []api.Datum {
	var items []api.Datum
	for r.more(end) {
		items = append(items, r.datum())
	}
	return items
}

func (r *reader) list(end string) api.Datum {
	var items []api.Datum
	for r.more(end) {
		if r.takeDot() {
			must(len(items) > 0)
			r.skip()
			tail := r.datum()
			must(!r.more(end))
			return pairs(items, tail)
		}
		items = append(items, r.datum())
	}
	return pairs(items, api.Datum{Kind: api.Nil})
}

// takeDot: does a dot that stands alone stand here? If so, it is passed.
func (r *reader) takeDot() bool {
	return token(r.rest()) == "." && r.take(".")
}

func pairs(items []api.Datum, tail api.Datum) api.Datum {
	for _, item := range slices.Backward(items) {
		tail = api.Datum{Kind: api.Pair, List: []api.Datum{item, tail}}
	}
	return tail
}

func quoted(d api.Datum) api.Datum {
	quote := api.Datum{Kind: api.Symbol, Text: "quote"}
	return pairs([]api.Datum{quote, d}, api.Datum{Kind: api.Nil})
}

func (r *reader) bytes(end string) []byte {
	var raw []byte
	for _, item := range r.items(end) {
		n, e := exact.Small(item.Num) // an error, too, if the item is no number: then it has none that is sound
		must(e == api.OK && n >= 0 && n <= 255)
		raw = append(raw, byte(n))
	}
	return raw
}
