package heap

import (
	"maps"
	"math/rand"
	"slices"
	"testing"

	"sextant/api"
)

// plain is a heap of the tests' own: each area is a row of words, and each word has the handle of the object that it is of, or 0.
type plain struct {
	small, large []int
	words        map[int][]api.Cell
	last         int
}

func newPlain(small, large int) *plain {
	return &plain{small: make([]int, small), large: make([]int, large), words: map[int][]api.Cell{}}
}

func (p *plain) there(x int) bool { return p.words[x] != nil }

func (p *plain) area(n int) []int {
	if n > largeSize {
		return p.large
	}
	return p.small
}

// roomAt: are n words free there?
func roomAt(area []int, at, n int) bool {
	if n > len(area)-at {
		return false
	}
	return !slices.ContainsFunc(area[at:at+n], func(x int) bool { return x != 0 })
}

func (p *plain) alloc(n int) (int, api.Errno) {
	if n < 1 {
		return 0, api.ErrArg
	}
	area := p.area(n)
	for at := range area {
		if roomAt(area, at, n) {
			p.last++
			for i := range n {
				area[at+i] = p.last
			}
			p.words[p.last] = make([]api.Cell, n)
			return p.last, api.OK
		}
	}
	return 0, api.ErrFull
}

func (p *plain) set(x, i int, c api.Cell) api.Errno {
	switch {
	case !p.there(x):
		return api.ErrNone
	case i < 0 || i >= len(p.words[x]):
		return api.ErrArg
	case c.Ref && c.N != 0 && !p.there(c.N):
		return api.ErrArg
	}
	p.words[x][i] = c
	return api.OK
}

// reach: all that stays, found by looking at everything again until nothing more is found.
func (p *plain) reach(roots []int) map[int]bool {
	stay := map[int]bool{}
	for _, x := range roots {
		stay[x] = true
	}
	for before := -1; before != len(stay); {
		before = len(stay)
		for x, words := range p.words {
			for _, c := range words {
				if stay[x] && c.Ref {
					stay[c.N] = true
				}
			}
		}
	}
	return stay
}

func (p *plain) collect(roots []int) (int, api.Errno) {
	for _, x := range roots {
		if x != 0 && !p.there(x) {
			return 0, api.ErrNone
		}
	}
	stay := p.reach(roots)
	went := 0
	for _, x := range slices.Sorted(maps.Keys(p.words)) {
		if !stay[x] {
			went += len(p.words[x])
			delete(p.words, x)
		}
	}
	for i, x := range p.large {
		if !p.there(x) {
			p.large[i] = 0
		}
	}
	size := len(p.small)
	p.small = slices.DeleteFunc(p.small, func(x int) bool { return !p.there(x) })
	p.small = append(p.small, make([]int, size-len(p.small))...)
	return went, api.OK
}

func (p *plain) whole() whole {
	count := func(area []int) int {
		return len(area) - len(slices.DeleteFunc(slices.Clone(area), func(x int) bool { return x == 0 }))
	}
	w := whole{small: count(p.small), large: count(p.large)}
	for _, x := range slices.Sorted(maps.Keys(p.words)) {
		n := len(p.words[x])
		w.objects = append(w.objects, seen{x, n, slices.Index(p.area(n), x), p.words[x]})
	}
	return w
}

// step is a call as four bytes tell it: which, and three numbers.
type step struct{ call, a, b, c byte }

// handle is one that is there, mostly; else one that is none, or far off.
func (p *plain) handle(b byte) int {
	live := slices.Sorted(maps.Keys(p.words))
	switch {
	case b < 200 && len(live) > 0:
		return live[int(b)%len(live)]
	case b < 240:
		return int(b)%(p.last+3) - 1
	}
	return []int{minInt, -1, 0, maxInt}[b%4]
}

func (s step) size() int {
	switch {
	case s.a < 110:
		return 1 + int(s.a)%largeSize
	case s.a < 240:
		return int(s.a) % 60
	}
	return []int{minInt, -1, 0, 120, 121, mostCells, mostCells + 1, maxInt}[s.a%8]
}

func (s step) place(size int) int {
	if s.b < 220 {
		return int(s.b) % max(size, 1)
	}
	return []int{minInt, -1, size, size + 1, maxInt}[s.b%5]
}

func (s step) cell(p *plain) api.Cell {
	if s.call < 160 {
		return ref(p.handle(s.c))
	}
	return number(int(s.c) - 5)
}

// roots are some of those that are there, with a doubtful one at times.
func (s step) roots(p *plain) []int {
	var roots []int
	for k, x := range slices.Sorted(maps.Keys(p.words)) {
		if s.a>>(k%8)&1 == 1 || s.b>>(k%7)&1 == 1 {
			roots = append(roots, x)
		}
	}
	if s.c >= 128 {
		roots = append(roots, p.handle(s.c), 0)
	}
	if s.c%2 == 0 {
		slices.Reverse(roots)
	}
	return roots
}

// checkStep carries a call out on both heaps, and holds answers and heaps against each other.
func checkStep(t *testing.T, h tried, p *plain, s step) {
	t.Helper()
	switch s.call % 8 {
	case 0, 1, 2:
		n := s.size()
		x, e := h.h.Alloc(n)
		if y, f := p.alloc(n); x != y || e != f {
			t.Fatalf("Alloc(%d): %d, error %d; want %d, error %d", n, x, e, y, f)
		}
	case 3:
		roots := s.roots(p)
		n, e := h.h.Collect(roots)
		if m, f := p.collect(roots); n != m || e != f {
			t.Fatalf("Collect(%v): %d, error %d; want %d, error %d", roots, n, e, m, f)
		}
	default:
		x := p.handle(s.a)
		i, c := s.place(len(p.words[x])), s.cell(p)
		e := h.h.Set(x, i, c)
		if f := p.set(x, i, c); e != f {
			t.Fatalf("Set(%d, %d, %v): error %d; want error %d", x, i, c, e, f)
		}
	}
	if got, want := h.whole(), p.whole(); !sameWhole(got, want) {
		t.Fatalf("behind %v the heap is %v; want %v", s, got, want)
	}
	checkEdges(t, h, p)
}

// checkEdges: what is not there is not there.
func checkEdges(t *testing.T, h tried, p *plain) {
	t.Helper()
	for x := -1; x <= p.last+1; x++ {
		want, n := api.ErrArg, len(p.words[x])
		if !p.there(x) {
			want = api.ErrNone
		}
		h.noGet(x, -1, want)
		h.noGet(x, n, want)
	}
}

func walk(t *testing.T, small, large int, steps []byte) {
	t.Helper()
	h, p := heapOf(t, small, large), newPlain(small, large)
	for len(steps) >= 4 && !t.Failed() {
		checkStep(t, h, p, step{steps[0], steps[1], steps[2], steps[3]})
		steps = steps[4:]
	}
}

// P12.1 to P12.4, P9: many calls in a row answer what the tests' own heap does, and leave what it does.
func TestWalk(t *testing.T) {
	r := rand.New(rand.NewSource(12))
	for range 150 {
		steps := make([]byte, 4*250)
		r.Read(steps)
		walk(t, 120, 300, steps)
		walk(t, r.Intn(200), r.Intn(600), steps)
		walk(t, 3, 40, steps[:4*60])
	}
}

func FuzzSteps(f *testing.F) {
	f.Add([]byte{0, 3, 0, 0, 1, 120, 0, 0, 4, 0, 0, 1, 3, 1, 0, 0, 0, 17, 0, 0, 5, 1, 230, 250, 3, 0, 0, 200})
	f.Fuzz(func(t *testing.T, steps []byte) {
		steps = steps[:min(len(steps), 4*200)]
		walk(t, 60, 200, steps)
		walk(t, 16, 17, steps)
	})
}
