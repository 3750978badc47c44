package enum

import (
	"maps"
	"math/rand"
	"slices"
	"strconv"
	"testing"

	"sextant/api"
)

// plain is a set of the tests' own: a universe, and a map of what the set has of it.
type plain struct {
	universe []string
	has      map[string]bool
}

func plainOf(s Set) plain {
	p := plain{s.Universe, map[string]bool{}}
	for i, symbol := range s.Universe {
		if s.In[i] {
			p.has[symbol] = true
		}
	}
	return p
}

func (p plain) set() Set {
	var s Set
	for _, symbol := range p.universe {
		s.Universe, s.In = append(s.Universe, symbol), append(s.In, p.has[symbol])
	}
	return s
}

func (p plain) copied() plain { return plain{p.universe, maps.Clone(p.has)} }

func (p plain) union(q plain) plain {
	out := p.copied()
	maps.Copy(out.has, q.has)
	return out
}

func (p plain) minus(q plain) plain {
	out := p.copied()
	for symbol := range q.has {
		delete(out.has, symbol)
	}
	return out
}

func (p plain) meet(q plain) plain { return p.minus(p.minus(q)) }

func (p plain) isWithin(q plain) bool { return len(p.minus(q).has) == 0 }

func (p plain) project(q plain) plain {
	return plain{q.universe, plainOf(allOf(q.universe)).meet(p).has}
}

func (p plain) list() []string {
	var out []string
	for _, symbol := range p.universe {
		if p.has[symbol] {
			out = append(out, symbol)
		}
	}
	return out
}

// checkOne holds all calls of one sound set against the tests' own.
func checkOne(t *testing.T, s Set, symbols []string) {
	t.Helper()
	p := plainOf(s)
	checkList(t, s, p.list(), api.OK)
	checkComplement(t, s, plainOf(allOf(s.Universe)).minus(p).set(), api.OK)
	want, wantError := plain{s.Universe, map[string]bool{}}, api.OK
	for _, symbol := range symbols {
		want.has[symbol] = true
		if i := slices.Index(s.Universe, symbol); i >= 0 {
			checkIndex(t, s, symbol, i, api.OK)
			continue
		}
		checkIndex(t, s, symbol, 0, api.ErrNone)
		wantError = api.ErrNone
	}
	checkOf(t, s, symbols, want.set(), wantError)
}

// checkTwo does so with all calls of two.
func checkTwo(t *testing.T, a, b Set) {
	t.Helper()
	p, q, wantError := plainOf(a), plainOf(b), api.OK
	if oneText(a.Universe) != oneText(b.Universe) {
		wantError = api.ErrType
	}
	for i, want := range []plain{p.union(q), p.meet(q), p.minus(q)} {
		calls()[i].check(t, a, b, want.set(), wantError)
	}
	calls()[3].check(t, a, b, p.project(q).set(), api.OK)
	checkSubset(t, a, b, p.isWithin(q), api.OK)
}

// oneText is a text for a list of texts, another one for each list.
func oneText(texts []string) string {
	out := ""
	for _, text := range texts {
		out += strconv.Itoa(len(text)) + ":" + text
	}
	return out
}

// P14.1, P14.2: all small sets, and all pairs of them.
func TestSmallSets(t *testing.T) {
	sets := smallSets()
	for _, a := range sets {
		for _, b := range sets {
			checkOne(t, a, b.Universe)
			checkTwo(t, a, b)
		}
	}
}

// drawn are symbols as bytes tell them, without those that stand twice, and what else the bytes tell of each.
func drawn(data []byte) Set {
	var s Set
	for _, b := range data {
		symbol := []string{"", "a", "A", "a\x00", "\xff"}[b%5] + strconv.Itoa(int(b/2%20))
		if slices.Contains(s.Universe, symbol) || len(s.Universe) == mostSymbols {
			continue
		}
		s.Universe, s.In = append(s.Universe, symbol), append(s.In, b >= 128)
	}
	return s
}

// checkDrawn takes sets from three rows of bytes: the second one also tells what another set of the first one's universe has.
func checkDrawn(t *testing.T, first, second, third []byte) {
	t.Helper()
	a, b := drawn(first), drawn(second)
	checkOne(t, a, drawn(third).Universe)
	checkOne(t, a, a.Universe[:len(third)%(len(a.Universe)+1)])
	checkTwo(t, a, b)
	c := Set{a.Universe, make([]bool, len(a.In))}
	for i := range min(len(c.In), len(second)) {
		c.In[i] = second[i]%3 == 0
	}
	checkTwo(t, a, c)
	checkTwo(t, c, a)
}

// P14.1, P14.2: sets of up to MaxSymbols symbols.
func TestDrawnSets(t *testing.T) {
	r := rand.New(rand.NewSource(14))
	row := func() []byte {
		data := make([]byte, r.Intn(200))
		r.Read(data)
		return data
	}
	for range 2000 {
		checkDrawn(t, row(), row(), row())
	}
}

func FuzzSets(f *testing.F) {
	f.Add([]byte("abc"), []byte("\xe1b"), []byte("c"))
	f.Add([]byte{}, []byte{0}, []byte{255})
	f.Fuzz(checkDrawn)
}
