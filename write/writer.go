package write

import (
	"strconv"
	"strings"

	"sextant/api"
	"sextant/exact"
)

// writer gathers the text of a datum that is known to be sound.
type writer struct {
	strings.Builder
	plain bool // characters, strings and symbols stand as they are
}

func (w *writer) datum(d api.Datum) {
	switch d.Kind {
	case api.Nil:
		w.WriteString("()")
	case api.Bool:
		w.boolean(d.N == 1)
	case api.Number:
		w.number(d.Num)
	case api.Char:
		w.character(rune(d.N))
	case api.String:
		w.quotation(d.Text)
	case api.Symbol:
		w.symbol(d.Text)
	case api.Bytes:
		w.bytes(d.Raw)
	case api.Pair:
		w.pair(d)
	case api.Vector:
		w.vector(d.List)
	case api.Void:
		w.WriteString("#<void>")
	case api.Other:
		w.other(d.Text)
	}
}

func (w *writer) boolean(holds bool) {
	if holds {
		w.WriteString("#t")
	} else {
		w.WriteString("#f")
	}
}

func (w *writer) number(n api.Num) {
	digits, _ := exact.Text(n, 10) // the number is sound, so there is no error
	w.WriteString(digits)
}

func (w *writer) other(text string) {
	w.WriteString("#<")
	w.WriteString(text)
	w.WriteByte('>')
}

func (w *writer) bytes(raw []byte) {
	w.WriteString("#vu8(")
	for i, b := range raw {
		w.gap(i)
		w.WriteString(strconv.Itoa(int(b)))
	}
	w.WriteByte(')')
}

func (w *writer) vector(items []api.Datum) {
	w.WriteString("#(")
	for i, item := range items {
		w.gap(i)
		w.datum(item)
	}
	w.WriteByte(')')
}

// gap parts the item at place i from the one ahead of it.
func (w *writer) gap(i int) {
	if i > 0 {
		w.WriteByte(' ')
	}
}

func (w *writer) pair(d api.Datum) {
	if item, ok := quoted(d); ok {
		w.WriteByte('\'')
		w.datum(item)
		return
	}
	w.WriteByte('(')
	for i := 0; d.Kind == api.Pair; i++ { // a loop, since there may be far more seconds on a way than MaxDepth
		w.gap(i)
		w.datum(d.List[0])
		d = d.List[1]
	}
	if d.Kind != api.Nil {
		w.WriteString(" . ")
		w.datum(d)
	}
	w.WriteByte(')')
}

// quoted: the second item, if the pair is a list of two of which the first is the symbol quote.
func quoted(d api.Datum) (item api.Datum, ok bool) {
	first, rest := d.List[0], d.List[1]
	if first.Kind != api.Symbol || first.Text != "quote" || rest.Kind != api.Pair || rest.List[1].Kind != api.Nil {
		return api.Datum{}, false
	}
	return rest.List[0], true
}
