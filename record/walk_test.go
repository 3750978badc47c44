package record

import (
	"math/rand"
	"slices"
	"strconv"
	"testing"

	"sextant/api"
	"sextant/datum"
)

// plain is a store of the tests' own: each type has all that is asked of it laid out beside it, and each record has its values by type and field.
type plain struct {
	types   []plainType
	records []plainRecord
}

type plainType struct {
	api.Rtd
	above  []int // the types that a record of it is of, the first parent first
	count  int   // of all fields
	hidden bool
}

type slot struct{ kind, i int }

type plainRecord struct {
	kind   int
	values map[slot]api.Datum
}

func (p *plain) isType(t int) bool { return t >= 0 && t < len(p.types) }

// hasTwice holds each name against each.
func hasTwice(names []string) bool {
	for i, name := range names {
		if slices.Contains(names[i+1:], name) {
			return true
		}
	}
	return false
}

func (p *plain) typ(given api.Rtd) (int, api.Errno) {
	if len(given.Fields) != len(given.Mutable) || hasTwice(given.Fields) || given.Parent != -1 && !p.isType(given.Parent) {
		return 0, api.ErrArg
	}
	for n, one := range p.types {
		switch {
		case given.Uid == "" || one.Uid != given.Uid:
		case alikeTypes(one.Rtd, given):
			return n, api.OK
		default:
			return 0, api.ErrTwice
		}
	}
	var parent plainType
	if given.Parent >= 0 {
		parent = p.types[given.Parent]
	}
	n := len(p.types)
	one := plainType{Rtd: given, above: append(slices.Clone(parent.above), n), count: parent.count + len(given.Fields), hidden: parent.hidden || given.Opaque}
	switch {
	case parent.Sealed:
		return 0, api.ErrType
	case one.count > mostFields || n == mostTypes:
		return 0, api.ErrLarge
	}
	p.types = append(p.types, one)
	return n, api.OK
}

func (p *plain) make(t int, values []api.Datum) (int, api.Errno) {
	switch {
	case !p.isType(t):
		return 0, api.ErrNone
	case len(values) != p.types[t].count:
		return 0, api.ErrArg
	case !slices.Equal(soundness(values), slices.Repeat([]bool{true}, len(values))):
		return 0, api.ErrForm
	case len(p.records) == mostRecords:
		return 0, api.ErrFull
	}
	r := plainRecord{t, map[slot]api.Datum{}}
	for _, number := range p.types[t].above {
		for i := range p.types[number].Fields {
			r.values[slot{number, i}] = values[len(r.values)]
		}
	}
	p.records = append(p.records, r)
	return len(p.records) - 1, api.OK
}

func soundness(values []api.Datum) []bool {
	out := []bool{}
	for _, v := range values {
		out = append(out, datum.Sound(v))
	}
	return out
}

func (p *plain) is(r, t int) (bool, api.Errno) {
	if r < 0 || r >= len(p.records) || !p.isType(t) {
		return false, api.ErrNone
	}
	return slices.Contains(p.types[p.records[r].kind].above, t), api.OK
}

func (p *plain) get(r, t, i int) (api.Datum, api.Errno) {
	is, e := p.is(r, t)
	if e != api.OK {
		return api.Datum{}, e
	}
	v, there := p.records[r].values[slot{t, i}]
	switch {
	case !is:
		return api.Datum{}, api.ErrType
	case !there:
		return api.Datum{}, api.ErrArg
	}
	return v, api.OK
}

func (p *plain) set(r, t, i int, v api.Datum) api.Errno {
	_, e := p.get(r, t, i)
	switch {
	case e != api.OK:
		return e
	case !datum.Sound(v):
		return api.ErrForm
	case !p.types[t].Mutable[i]:
		return api.ErrTwice
	}
	p.records[r].values[slot{t, i}] = v
	return api.OK
}

func (p *plain) seen() seen {
	var out seen
	for _, one := range p.types {
		out.types = append(out.types, one.Rtd)
		out.fields = append(out.fields, one.count)
	}
	for _, r := range p.records {
		kind := p.types[r.kind]
		one := seenRecord{kind: r.kind}
		if kind.hidden {
			one.kind, one.e = 0, api.ErrType
		}
		for number := range p.types {
			one.is = append(one.is, slices.Contains(kind.above, number))
			for i := range len(p.types[number].Fields) {
				if v, there := r.values[slot{number, i}]; there {
					one.values = append(one.values, v)
				}
			}
		}
		out.records = append(out.records, one)
	}
	return out
}

// drawn tells what is done by bytes, one after the other; 0, when there are no more.
type drawn struct{ bytes []byte }

func (d *drawn) next(below int) int {
	if len(d.bytes) == 0 {
		return 0
	}
	b := int(d.bytes[0])
	d.bytes = d.bytes[1:]
	return b % below
}

// number is one of so many that are there, mostly; else one that is none, or far off.
func (d *drawn) number(count int) int {
	switch b := d.next(16); {
	case b < 13 && count > 0:
		return d.next(count)
	case b < 15:
		return d.next(count+3) - 1
	}
	return []int{minInt, -1, -2, maxInt}[d.next(4)]
}

// rtd is a type of few names and uids, so that types are the same now and then.
func (d *drawn) rtd(count int) api.Rtd {
	t := api.Rtd{Name: []string{"a", "b", "a"}[d.next(3)], Parent: -1, Sealed: d.next(6) == 0, Opaque: d.next(6) == 0}
	if d.next(3) > 0 {
		t.Parent = d.number(count)
	}
	if b := d.next(10); b < 5 {
		t.Uid = strconv.Itoa(b)
	}
	for n := range d.next(6) * (1 + d.next(8)/7*2) {
		t.Fields = append(t.Fields, "f"+strconv.Itoa(n))
		t.Mutable = append(t.Mutable, d.next(2) == 0)
	}
	switch n := len(t.Fields); {
	case n > 1 && d.next(12) == 0:
		t.Fields[d.next(n)] = t.Fields[d.next(n)]
	case d.next(20) == 0:
		t.Mutable = append(t.Mutable, true)
	case n > 0 && d.next(20) == 0:
		t.Mutable = t.Mutable[1:]
	}
	return t
}

func (d *drawn) datum() api.Datum {
	if d.next(20) == 0 {
		return []api.Datum{{}, sym("\xff"), {Kind: api.Pair}, {Kind: api.Number}, vector(api.Datum{})}[d.next(5)]
	}
	all := someData()
	return all[d.next(len(all))]
}

func (d *drawn) values(count int) []api.Datum {
	switch d.next(12) {
	case 0:
		count++
	case 1:
		count = max(0, count-1)
	}
	var out []api.Datum
	for range count {
		out = append(out, d.datum())
	}
	return out
}

// step carries a call out on both stores, and holds the answers against each other.
func (d *drawn) step(x tried, p *plain) {
	x.t.Helper()
	r, number := d.number(len(p.records)), d.number(len(p.types))
	i := d.next(7) - 1
	switch d.next(5) {
	case 0:
		given := d.rtd(len(p.types))
		n, e := x.s.Type(given)
		if m, f := p.typ(given); n != m || e != f {
			x.t.Fatalf("Type(%s): %d, error %d; want %d, error %d", brief(given), n, e, m, f)
		}
	case 1:
		count := 0
		if p.isType(number) {
			count = p.types[number].count
		}
		values := d.values(count)
		n, e := x.s.Make(number, values)
		if m, f := p.make(number, values); n != m || e != f {
			x.t.Fatalf("Make(%d, %d values): %d, error %d; want %d, error %d", number, len(values), n, e, m, f)
		}
	case 2:
		is, e := x.s.Is(r, number)
		if was, f := p.is(r, number); is != was || e != f {
			x.t.Fatalf("Is(%d, %d): %v, error %d; want %v, error %d", r, number, is, e, was, f)
		}
	case 3:
		v, e := x.s.Get(r, number, i)
		if w, f := p.get(r, number, i); e != f || !alike(v, w) {
			x.t.Fatalf("Get(%d, %d, %d): %s, error %d; want %s, error %d", r, number, i, brief(v), e, brief(w), f)
		}
	case 4:
		v := d.datum()
		e := x.s.Set(r, number, i, v)
		if f := p.set(r, number, i, v); e != f {
			x.t.Fatalf("Set(%d, %d, %d, %s): error %d; want error %d", r, number, i, brief(v), e, f)
		}
	}
}

func walk(t *testing.T, bytes []byte) {
	t.Helper()
	x, p, d := storeOf(t), &plain{}, &drawn{bytes}
	for n := 0; len(d.bytes) > 0; n++ {
		d.step(x, p)
		if n%16 == 0 && !sameSeen(x.seen(), p.seen()) {
			t.Fatalf("behind %d calls the store is another one", n+1)
		}
	}
	if !sameSeen(x.seen(), p.seen()) {
		t.Fatal("the store is another one")
	}
}

// P15.1 to P15.4: many calls in a row answer what the tests' own store does, and leave what it does.
func TestWalk(t *testing.T) {
	r := rand.New(rand.NewSource(15))
	for range 150 {
		bytes := make([]byte, 2500)
		r.Read(bytes)
		walk(t, bytes)
	}
}

func FuzzSteps(f *testing.F) {
	r := rand.New(rand.NewSource(51))
	for range 3 {
		bytes := make([]byte, 300)
		r.Read(bytes)
		f.Add(bytes)
	}
	f.Fuzz(func(t *testing.T, bytes []byte) { walk(t, bytes[:min(len(bytes), 1500)]) })
}
