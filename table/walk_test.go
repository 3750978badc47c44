package table

import (
	"math/big"
	"math/rand"
	"slices"
	"strconv"
	"strings"
	"testing"

	"sextant/api"
	"sextant/datum"
)

// plain is a table of the tests' own: a list of keys with their values, which is gone through for each call.
type plain struct {
	kind int
	rows []row
}

// one: are two keys one, by the tests' own reckoning?
func one(kind int, a, b api.Datum) bool {
	switch kind {
	case 1:
		return same(a, b)
	case 2:
		return foldOf(a.Text) == foldOf(b.Text)
	}
	return restOf(a) == restOf(b)
}

// foldOf holds for the letters that the walks' keys are made of.
func foldOf(s string) string {
	return strings.NewReplacer("ß", "ss", "ς", "σ").Replace(strings.ToLower(s))
}

func restOf(d api.Datum) int64 {
	n := new(big.Int)
	for _, word := range slices.Backward(d.Num.Re.Top) {
		n.Add(n.Lsh(n, 32), big.NewInt(int64(word)))
	}
	if d.Num.Re.Neg {
		n.Neg(n)
	}
	return n.Mod(n, big.NewInt(10)).Int64()
}

// fault is the error by which a key is refused.
func (p *plain) fault(key api.Datum, beside ...api.Datum) api.Errno {
	isBad := func(d api.Datum) bool { return !datum.Sound(d) }
	num := key.Num
	switch {
	case slices.ContainsFunc(append(beside, key), isBad):
		return api.ErrForm
	case p.kind == 2 && key.Kind != api.String:
		return api.ErrType
	case p.kind == 3 && (key.Kind != api.Number || len(num.Im.Top) != 0 || !slices.Equal(num.Re.Bot, []uint32{1})):
		return api.ErrType
	}
	return api.OK
}

func (p *plain) index(key api.Datum) int {
	return slices.IndexFunc(p.rows, func(r row) bool { return one(p.kind, r.key, key) })
}

func (p *plain) set(key, value api.Datum) api.Errno {
	if e := p.fault(key, value); e != api.OK {
		return e
	}
	if i := p.index(key); i >= 0 {
		p.rows[i].value = value
		return api.OK
	}
	if len(p.rows) == mostKeys {
		return api.ErrFull
	}
	p.rows = append(p.rows, row{key, value})
	return api.OK
}

func (p *plain) get(key api.Datum) (api.Datum, api.Errno) {
	if e := p.fault(key); e != api.OK {
		return api.Datum{}, e
	}
	if i := p.index(key); i >= 0 {
		return p.rows[i].value, api.OK
	}
	return api.Datum{}, api.ErrNone
}

func (p *plain) delete(key api.Datum) api.Errno {
	if e := p.fault(key); e != api.OK {
		return e
	}
	i := p.index(key)
	if i < 0 {
		return api.ErrNone
	}
	p.rows = slices.Delete(p.rows, i, i+1)
	return api.OK
}

// step is a call as three bytes tell it: which, and two numbers.
type step struct{ call, a, b byte }

// datumOf is a key as a byte tells it: mostly one of a few of that kind, else one of any sort, or one that is not sound.
func datumOf(kind int, b byte) api.Datum {
	n := int(b)
	switch {
	case b >= 250:
		return []api.Datum{{}, str("a\xff"), {Kind: api.Number}, {Kind: api.Pair}, {Kind: api.Vector, N: 1}, {Kind: api.Number, Num: whole(1).Num, N: 1}}[b-250]
	case b >= 225:
		return someData()[n%len(someData())]
	}
	switch kind {
	case 1:
		return treeOf(n)
	case 2:
		return str(textOf(n))
	}
	return whole((n - 112) * (1 + n%3*1000003))
}

func treeOf(n int) api.Datum {
	switch n % 5 {
	case 0:
		return list(repeated(whole(n/5%3), n/15%3)...)
	case 1:
		return vector(repeated(whole(n/5%3), n/15%3)...)
	case 2:
		return oneHash()[n/5%8][0]
	case 3:
		return read([]string{"1/2", "2/4", "+i", "0+1i", "-1/2", "1", "3/3"}[n/5%7])
	}
	return pair(sym(strconv.Itoa(n/5%4)), str(strconv.Itoa(n/20%2)))
}

// textOf is one of few texts, each character of which may be a capital.
func textOf(n int) string {
	letters := [][]string{{"a", "A"}, {"σ", "Σ", "ς"}, {"ß", "ss", "sS"}, {"é", "É"}, {"ж", "Ж"}, {"1"}}
	var out strings.Builder
	for range n % 4 {
		forms := letters[n%len(letters)]
		out.WriteString(forms[n/7%len(forms)])
		n = n * 5 / 3
	}
	return out.String()
}

// check holds what two tables tell against each other.
func check(t *testing.T, what string, x tried, p *plain) {
	t.Helper()
	if got := x.rows(); !sameRows(got, p.rows) {
		t.Fatalf("behind %s there are %d keys, want %d, or others", what, len(got), len(p.rows))
	}
}

// walker has two tables of a kind, of which the second one is a copy of what the first one was.
type walker struct {
	x, aside     tried
	p, plainside *plain
}

func (w *walker) step(t *testing.T, s step) {
	t.Helper()
	key, value := datumOf(w.p.kind, s.a), datumOf(1, s.b)
	switch {
	case s.call < 110:
		if got, want := w.x.x.Set(key, value), w.p.set(key, value); got != want {
			t.Fatalf("Set(%s, %s): error %d; want error %d", brief(key), brief(value), got, want)
		}
	case s.call < 180:
		if got, want := w.x.x.Delete(key), w.p.delete(key); got != want {
			t.Fatalf("Delete(%s): error %d; want error %d", brief(key), got, want)
		}
	case s.call < 230:
		got, e := w.x.x.Get(key)
		if want, f := w.p.get(key); e != f || !same(got, want) {
			t.Fatalf("Get(%s): %s, error %d; want %s, error %d", brief(key), brief(got), e, brief(want), f)
		}
	case s.call < 240:
		w.aside, w.plainside = w.x.copy(), &plain{w.p.kind, slices.Clone(w.p.rows)}
	case s.call < 252:
		w.x, w.p, w.aside, w.plainside = w.aside, w.plainside, w.x, w.p
	default:
		w.x.x.Clear()
		w.p.rows = nil
	}
	check(t, "a call", w.x, w.p)
	check(t, "a call on another table", w.aside, w.plainside)
}

func walk(t *testing.T, kind int, steps []byte) {
	t.Helper()
	w := walker{x: tableOf(t, kind), aside: tableOf(t, kind), p: &plain{kind: kind}, plainside: &plain{kind: kind}}
	for len(steps) >= 3 {
		w.step(t, step{steps[0], steps[1], steps[2]})
		steps = steps[3:]
	}
}

// P13.1 to P13.3: many calls in a row answer what the tests' own table does, and leave what it does.
func TestWalk(t *testing.T) {
	r := rand.New(rand.NewSource(13))
	for range 40 {
		for _, kind := range kinds() {
			steps := make([]byte, 3*200)
			r.Read(steps)
			walk(t, kind, steps)
		}
	}
}

func FuzzSteps(f *testing.F) {
	r := rand.New(rand.NewSource(31))
	for kind := range 3 {
		steps := make([]byte, 3*40)
		r.Read(steps)
		f.Add(byte(kind), steps)
	}
	f.Fuzz(func(t *testing.T, kind byte, steps []byte) {
		walk(t, 1+int(kind)%3, steps[:min(len(steps), 3*300)])
	})
}
