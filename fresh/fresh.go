// Package fresh copies data, texts and lists into new memory, for the layers that answer or keep what they were handed.
package fresh

import (
	"strings"

	"sextant/api"
)

// Datum: a sound datum in new memory, texts too, which may be pieces of long ones that would be kept with them.
func Datum(d api.Datum) api.Datum {
	return api.Datum{
		Kind: d.Kind,
		N:    d.N,
		Num:  api.Num{Re: fraction(d.Num.Re), Im: fraction(d.Num.Im)},
		Text: strings.Clone(d.Text),
		Raw:  List(d.Raw),
		List: Data(d.List),
	}
}

// Data: sound data in new memory, one by one.
func Data(data []api.Datum) []api.Datum {
	out := List(data)
	for i, d := range out {
		out[i] = Datum(d)
	}
	return out
}

// Texts: texts in new memory, one by one.
func Texts(texts []string) []string {
	out := List(texts)
	for i, text := range out {
		out[i] = strings.Clone(text)
	}
	return out
}

func fraction(r api.Rat) api.Rat {
	return api.Rat{Neg: r.Neg, Top: List(r.Top), Bot: List(r.Bot)}
}

// List: a list in new memory; what its items themselves point to is still shared. It begins with nil: slices.Clone of a list without items would go on pointing to its room.
func List[T any](items []T) []T {
	return append([]T(nil), items...)
}
