package nat

import (
	"math/big"
	"math/rand"
	"slices"
	"testing"

	"sextant/api"
)

const allBits = 0xffffffff

// bigOf is the number by the library's own arithmetic, which these tests hold the package against.
func bigOf(a []uint32) *big.Int {
	n := new(big.Int)
	for i := len(a) - 1; i >= 0; i-- {
		n.Lsh(n, 32)
		n.Or(n, big.NewInt(int64(a[i])))
	}
	return n
}

func wordsOf(n *big.Int) []uint32 {
	var out []uint32
	low := big.NewInt(allBits)
	for n = new(big.Int).Set(n); n.Sign() > 0; n.Rsh(n, 32) {
		out = append(out, uint32(new(big.Int).And(n, low).Uint64()))
	}
	return out
}

// expect is what a call must answer that is worth n: ErrLarge, if n has too many words.
func expect(n *big.Int) ([]uint32, api.Errno) {
	w := wordsOf(n)
	if len(w) > api.MaxWords {
		return nil, api.ErrLarge
	}
	return w, api.OK
}

func check(t *testing.T, what string, got []uint32, e api.Errno, want []uint32, err api.Errno) {
	t.Helper()
	if e != err || !slices.Equal(got, want) {
		t.Errorf("%s: %s, error %d; want %s, error %d", what, brief(got), e, brief(want), err)
	}
}

func brief(a []uint32) string {
	s := bigOf(a).Text(16)
	if len(s) > 80 {
		s = s[:40] + ".." + s[len(s)-36:]
	}
	return "0x" + s
}

// list is n words, all the same.
func list(n int, word uint32) []uint32 {
	return slices.Repeat([]uint32{word}, n)
}

// power is 2 to the power 32 times n.
func power(n int) []uint32 {
	return append(make([]uint32, n), 1)
}

// unsound are lists that are no numbers: noughts on top, or too many words.
func unsound() [][]uint32 {
	return [][]uint32{
		{0},
		{1, 0},
		{0, 0},
		{1, 2, 3, 0},
		append(list(api.MaxWords-1, allBits), 0),
		list(api.MaxWords+1, 1),
		list(api.MaxWords+1, 0),
		list(4*api.MaxWords, allBits),
	}
}

// edges are numbers at which something is carried, borrowed, or about to be too long.
func edges() [][]uint32 {
	out := [][]uint32{nil, {}, {1}, {2}, {3}, {5}, {10}, {allBits - 1}, {allBits}, {1 << 31}, {1<<31 - 1}}
	for _, n := range []int{1, 2, 3, 7} {
		out = append(out, power(n), list(n+1, allBits), append(power(n), 1), append(list(n, allBits), 1<<31))
		out = append(out, append(list(n, 0), 1<<31), append(list(n, 0), 1<<31-1), append(list(n, allBits), 1))
	}
	out = append(out,
		list(255, allBits), power(255), list(256, allBits), power(256), list(257, allBits), power(257),
		power(api.MaxWords-1), list(api.MaxWords-1, allBits), list(api.MaxWords, 1), list(api.MaxWords, allBits),
		append(list(api.MaxWords-1, 0), 1<<31), append(list(api.MaxWords-1, allBits), 1<<31-1))
	return out
}

// some are numbers of all lengths whose words are often at their ends, where a guessed digit is wrong.
func some(count, words int) [][]uint32 {
	r := rand.New(rand.NewSource(2))
	ends := []uint32{0, 0, 1, 1 << 31, 1<<31 - 1, allBits, allBits, allBits - 1}
	out := make([][]uint32, count)
	for i := range out {
		a := make([]uint32, r.Intn(words+1))
		odd := r.Intn(3)
		for k := range a {
			a[k] = ends[r.Intn(len(ends))]
			if r.Intn(3) < odd {
				a[k] = r.Uint32()
			}
		}
		for len(a) > 0 && a[len(a)-1] == 0 {
			a[len(a)-1] = ends[r.Intn(len(ends))]
		}
		out[i] = a
	}
	return out
}

// pairs are all pairs of edges, and then some.
func pairs(yield func(a, b []uint32) bool) {
	for _, a := range edges() {
		for _, b := range edges() {
			if !yield(a, b) {
				return
			}
		}
	}
	for _, words := range []int{3, 8, 40, api.MaxWords} {
		list := some(240, words)
		for i, a := range list {
			if !yield(a, list[(i*7+1)%len(list)]) {
				return
			}
		}
	}
}

// wrongPairs has a list that is not sound on the left, on the right, and on both sides.
func wrongPairs(yield func(a, b []uint32) bool) {
	for _, bad := range unsound() {
		for _, good := range [][]uint32{nil, {1}, {7, 9}, list(api.MaxWords, allBits)} {
			if !yield(bad, good) || !yield(good, bad) {
				return
			}
		}
		for _, worse := range unsound() {
			if !yield(bad, worse) {
				return
			}
		}
	}
}
