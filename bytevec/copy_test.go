package bytevec

import (
	"math/rand"
	"slices"
	"testing"

	"sextant/api"
)

func checkCopy(t *testing.T, src []byte, from int, dst []byte, at, n int) {
	t.Helper()
	got, e := Copy(src, from, dst, at, n)
	lie := func(b []byte, at int) bool { return at >= 0 && at <= len(b) && n >= 0 && n <= len(b)-at }
	if !lie(src, from) || !lie(dst, at) {
		checkBytes(t, "Copy", got, e, nil, api.ErrArg)
		return
	}
	checkBytes(t, "Copy", got, e, slices.Concat(dst[:at], src[from:from+n], dst[at+n:]), api.OK)
}

// P5.3: all places and counts of short bytes, in them and beyond, none and all of them included.
func TestCopyShort(t *testing.T) {
	all := []byte{1, 2, 3, 4, 5, 6, 7, 8, 9}
	for i := range 6 {
		for j := range 6 {
			src, dst := all[:i], all[9-j:]
			for from := -2; from <= i+2; from++ {
				for at := -2; at <= j+2; at++ {
					for n := -2; n <= 7; n++ {
						checkCopy(t, src, from, dst, at, n)
					}
				}
			}
		}
	}
}

// P5.3: bytes copied to themselves, with the two places overlapping on either side.
func TestCopyToThemselves(t *testing.T) {
	for _, c := range []struct {
		from, at, n int
		want        []byte
	}{
		{0, 1, 4, []byte{1, 1, 2, 3, 4, 6}},
		{1, 0, 4, []byte{2, 3, 4, 5, 5, 6}},
		{0, 2, 4, []byte{1, 2, 1, 2, 3, 4}},
		{2, 0, 4, []byte{3, 4, 5, 6, 5, 6}},
		{0, 0, 6, []byte{1, 2, 3, 4, 5, 6}},
		{2, 2, 3, []byte{1, 2, 3, 4, 5, 6}},
		{6, 0, 0, []byte{1, 2, 3, 4, 5, 6}},
	} {
		b := []byte{1, 2, 3, 4, 5, 6}
		got, e := Copy(b, c.from, b, c.at, c.n)
		checkBytes(t, "Copy", got, e, c.want, api.OK)
		checkBytes(t, "what was handed in", b, api.OK, []byte{1, 2, 3, 4, 5, 6}, api.OK)
		got, e = Copy(b[c.from:], 0, b[c.at:], 0, c.n)
		checkBytes(t, "Copy of pieces", got, e, c.want[c.at:], api.OK)
		checkBytes(t, "what was handed in", b, api.OK, []byte{1, 2, 3, 4, 5, 6}, api.OK)
	}
}

// P5.3: places and counts at the ends of an int, whose sums are greater than any, on each side; spare room is no part of either.
func TestCopyWrong(t *testing.T) {
	good := make([]byte, 10, 40)
	for _, n := range []int{0, 1, 9, 10} {
		for _, at := range wrongPlaces(10, n) {
			if at >= 0 && at <= 10-n {
				continue
			}
			checkCopy(t, good, at, good, 0, n)
			checkCopy(t, good, 0, good, at, n)
			checkCopy(t, good, at, good, at, n)
		}
	}
	for _, n := range []int{-1, minInt, minInt + 1, 11, maxInt, maxInt - 1} {
		for _, at := range []int{0, 1, 5, 9, 10, 11, -1, minInt, maxInt} {
			checkCopy(t, good, at, good, 0, n)
			checkCopy(t, good, 0, good, at, n)
			checkCopy(t, good, at, good, at, n)
		}
	}
}

// P5.3: no bytes at all.
func TestCopyOfNone(t *testing.T) {
	for _, none := range [][]byte{nil, {}, make([]byte, 0, 9)} {
		checkCopy(t, none, 0, none, 0, 0)
		checkCopy(t, none, 0, []byte{1, 2}, 2, 0)
		checkCopy(t, []byte{1, 2}, 2, none, 0, 0)
		checkCopy(t, none, 0, []byte{1, 2}, 0, 1)
		checkCopy(t, []byte{1, 2}, 0, none, 0, 1)
		checkCopy(t, none, 1, none, 0, 0)
		checkCopy(t, none, 0, none, 1, 0)
	}
}

// P5.3: some bytes at some places.
func TestSomeCopies(t *testing.T) {
	r := rand.New(rand.NewSource(10))
	for range 3000 {
		src, dst := someBytes(r, r.Intn(200)), someBytes(r, r.Intn(200))
		n := r.Intn(min(len(src), len(dst)) + 1)
		checkCopy(t, src, r.Intn(len(src)-n+1), dst, r.Intn(len(dst)-n+1), n)
		checkCopy(t, src, r.Intn(220)-10, dst, r.Intn(220)-10, r.Intn(220)-10)
	}
}
