package cond

import (
	"math/rand"
	"slices"
	"strings"
	"testing"

	"sextant/api"
	"sextant/datum"
	"sextant/write"
)

// plainCheck goes through all parts, the last one first, so that the first fault is the one that is left.
func plainCheck(c []api.Simple) api.Errno {
	e := api.OK
	for _, part := range slices.Backward(c) {
		switch {
		case part.Type < 0 || part.Type > 19:
			e = api.ErrNone
		case len(part.Fields) != tree()[part.Type].fields:
			e = api.ErrArg
		case !slices.Equal(soundness(part.Fields), slices.Repeat([]bool{true}, len(part.Fields))):
			e = api.ErrForm
		}
	}
	if len(c) > mostParts {
		e = api.ErrLarge
	}
	return e
}

func soundness(data []api.Datum) []bool {
	out := []bool{}
	for _, d := range data {
		out = append(out, datum.Sound(d))
	}
	return out
}

// foundOf is, for each type, the first part that is under it, in a condition without a fault.
func foundOf(c []api.Simple) map[int]api.Simple {
	out := map[int]api.Simple{}
	for _, part := range slices.Backward(c) {
		for _, of := range tree()[part.Type].under {
			out[of] = part
		}
	}
	return out
}

func plainTell(c []api.Simple) string {
	found := foundOf(c)
	name := tree()[found[3].Type].name
	text := func(of func(api.Datum) (string, api.Errno), d api.Datum) string {
		s, e := of(d)
		if e != api.OK {
			panic("a field that is not sound")
		}
		return s
	}
	words := []string{name}
	if who, ok := found[8]; ok {
		words = append(words, "in", text(write.Display, who.Fields[0]))
	}
	if message, ok := found[1]; ok {
		words = append(words[:len(words)-1], words[len(words)-1]+":", text(write.Display, message.Fields[0]))
	}
	if irritants, ok := found[7]; ok {
		var each []string
		rest := irritants.Fields[0]
		for rest.Kind == api.Pair {
			each = append(each, text(write.Write, rest.List[0]))
			rest = rest.List[1]
		}
		if rest.Kind == api.Nil {
			words = append(words, each...)
		}
	}
	return strings.Join(words, " ")
}

// drawn tells what is done by bytes, one after the other; 0, when there are no more.
type drawn struct{ bytes []byte }

func (d *drawn) next(below int) int {
	if len(d.bytes) == 0 {
		return 0
	}
	b := int(d.bytes[0])
	d.bytes = d.bytes[1:]
	return b % below
}

func (d *drawn) datum() api.Datum {
	if d.next(60) == 1 {
		return []api.Datum{{}, sym("\xff"), {Kind: api.Pair}, {Kind: api.Number}, list(api.Datum{})}[d.next(5)]
	}
	data := read("#f #t () (1) (a \"b\" #\\c) (1 . 2) \"a\\nb\" #\\space a\\x20;b #(\"x\" y) 1/2 #vu8(1)")
	return data[d.next(len(data))]
}

func (d *drawn) data(count int) []api.Datum {
	var out []api.Datum
	for range count {
		out = append(out, d.datum())
	}
	return out
}

// part is one of the types that Tell tells, mostly, and seldom at fault.
func (d *drawn) part() api.Simple {
	number := d.next(20)
	if d.next(2) == 1 {
		number = []int{8, 1, 7, 4, 6}[d.next(5)]
	}
	count := tree()[number].fields
	switch d.next(60) {
	case 1:
		number = noTypes()[d.next(len(noTypes()))]
	case 2:
		count++
	case 3:
		count = max(0, count-1)
	}
	return part(number, d.data(count)...)
}

func (d *drawn) condition() []api.Simple {
	var out []api.Simple
	for range d.next(9) + d.next(9)*(d.next(4)/3)*2 {
		out = append(out, d.part())
	}
	return out
}

// heldToModel holds the calls of a condition against the tests' own.
func heldToModel(t *testing.T, c []api.Simple) {
	t.Helper()
	if want := plainCheck(c); want != api.OK {
		isFaulty(t, c, want)
		return
	}
	isSound(t, c)
	tells(t, c, plainTell(c))
	found := foundOf(c)
	for number := range tree() {
		if want, ok := found[number]; ok {
			finds(t, c, number, want)
		} else {
			noFind(t, c, number, api.ErrNone)
		}
	}
	noFind(t, c, -1, api.ErrArg)
}

// step draws conditions, and the condition of an error.
func (d *drawn) step(t *testing.T) {
	t.Helper()
	a, b, c := d.condition(), d.condition(), d.condition()
	heldToModel(t, a)
	whole := append(append(append([]api.Simple{}, a...), b...), c...)
	if want := plainCheck(whole); want == api.OK {
		joins(t, whole, a, b, c)
	} else {
		noJoin(t, want, a, b, c)
	}
	who, message, irritants, violation := d.datum(), d.datum(), d.data(d.next(5)), d.next(2) == 1
	if slices.Contains(soundness(append([]api.Datum{who, message}, irritants...)), false) {
		noError(t, who, message, irritants...)
		return
	}
	want := []api.Simple{part(4), part(8, who), part(1, message), part(7, list(irritants...))}
	if violation {
		want[0].Type = 6
	}
	if alike(who, no()) {
		want = slices.Delete(want, 1, 2)
	}
	errs(t, who, message, irritants, violation, want)
	heldToModel(t, want)
}

// P16.2 to P16.4: drawn conditions, with and without faults, answer what the tests' own calls do.
func TestDrawn(t *testing.T) {
	r := rand.New(rand.NewSource(16))
	for range 3000 {
		data := make([]byte, 400)
		r.Read(data)
		(&drawn{data}).step(t)
	}
}

func FuzzConditions(f *testing.F) {
	r := rand.New(rand.NewSource(61))
	for range 5 {
		data := make([]byte, 200)
		r.Read(data)
		f.Add(data)
	}
	f.Fuzz(func(t *testing.T, data []byte) { (&drawn{data}).step(t) })
}
