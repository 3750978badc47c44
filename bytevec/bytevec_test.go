package bytevec

import (
	"bytes"
	"math/big"
	"math/rand"
	"slices"
	"testing"

	"sextant/api"
	"sextant/exact"
)

// The chapter's examples.
func TestExamples(t *testing.T) {
	n, e := Get([]byte{1, 2}, 0, 2, true, false)
	checkNum(t, "Get", n, e, big.NewInt(258))
	n, e = Get([]byte{1, 2}, 0, 2, false, false)
	checkNum(t, "Get", n, e, big.NewInt(513))
	n, e = Get([]byte{255}, 0, 1, true, true)
	checkNum(t, "Get", n, e, big.NewInt(-1))
	b, e := Put([]byte{0, 0, 9}, 0, 2, true, true, exact.Int(-2))
	checkBytes(t, "Put", b, e, []byte{255, 254, 9}, api.OK)
	b, e = Put([]byte{0}, 0, 1, true, true, exact.Int(128))
	checkBytes(t, "Put", b, e, nil, api.ErrLarge)
	for _, f := range forms(2) {
		l, e := List([]byte{1, 2, 3}, 2, f.big, f.signed)
		if len(l) != 0 || e != api.ErrArg {
			t.Errorf("List: %v, error %d", l, e)
		}
	}
}

func checkGet(t *testing.T, b []byte, at int, f form) {
	t.Helper()
	n, e := Get(b, at, f.size, f.big, f.signed)
	checkNum(t, "Get, "+f.String(), n, e, f.numberOf(b[at:at+f.size]))
}

// P5.1: all of one byte, and all of two.
func TestGetShort(t *testing.T) {
	for x := range 256 {
		for _, f := range forms(1) {
			checkGet(t, []byte{byte(x)}, 0, f)
		}
	}
	for x := range 1 << 16 {
		b := []byte{byte(x >> 8), byte(x)}
		n, e := Get(b, 0, 2, true, false)
		checkNum(t, "Get", n, e, big.NewInt(int64(x)))
		n, e = Get(b, 0, 2, true, true)
		checkNum(t, "Get", n, e, big.NewInt(int64(int16(x))))
		n, e = Get(b, 0, 2, false, false)
		checkNum(t, "Get", n, e, big.NewInt(int64(b[0])+256*int64(b[1])))
		n, e = Get(b, 0, 2, false, true)
		checkNum(t, "Get", n, e, big.NewInt(int64(int8(b[1]))*256+int64(b[0])))
	}
}

// P5.1: bytes of each size in each way, with the highest bit set and not.
func TestGet(t *testing.T) {
	for _, f := range forms(allSizes()...) {
		for _, x := range []byte{0, 1, 0x7f, 0x80, 0xff} {
			b := bytes.Repeat([]byte{x}, f.size)
			checkGet(t, b, 0, f)
			for _, end := range []byte{0, 1, 0x7f, 0x80, 0xff} {
				b := slices.Clone(b)
				b[0] = end
				checkGet(t, b, 0, f)
				b[0], b[f.size-1] = x, end
				checkGet(t, b, 0, f)
			}
		}
	}
}

// P5.1: some bytes, from each place up to the last that leaves room.
func TestGetPlaces(t *testing.T) {
	r := rand.New(rand.NewSource(5))
	for _, f := range forms(allSizes()...) {
		b := someBytes(r, f.size+r.Intn(9))
		for at := range len(b) - f.size + 1 {
			checkGet(t, b, at, f)
		}
	}
}

// refused: Get and Put of each number answer ErrArg, ahead of what they would say of the number.
func refused(t *testing.T, b []byte, at int, f form) {
	t.Helper()
	n, e := Get(b, at, f.size, f.big, f.signed)
	checkNumError(t, "Get, "+f.String(), n, e, api.ErrArg)
	for _, n := range []api.Num{{}, complexNum("1/2", "0"), complexNum("1", "1"), exact.Int(0), num(pow2(8 * most))} {
		b, e := Put(b, at, f.size, f.big, f.signed, n)
		checkBytes(t, "Put, "+f.String(), b, e, nil, api.ErrArg)
	}
}

// P5.1: sizes one beyond 1 and 64, and far beyond.
func TestWrongSize(t *testing.T) {
	for _, f := range forms(wrongSizes()...) {
		for _, length := range []int{0, 1, 64, 65, 200} {
			for _, at := range []int{0, 1, -1, length, -f.size, maxInt, minInt} {
				refused(t, make([]byte, length), at, f)
			}
		}
	}
}

// P5.1: places below 0, one beyond the last that leaves room, and those whose sum with the size is greater than any int.
func TestWrongPlace(t *testing.T) {
	for _, f := range forms(someSizes()...) {
		for _, more := range []int{0, 1, 5, 100} {
			for _, at := range wrongPlaces(f.size+more, f.size) {
				refused(t, make([]byte, f.size+more), at, f)
			}
		}
	}
}

// P5.1: too few bytes, and none, have no number at any place; spare room behind them is none of them.
func TestTooFew(t *testing.T) {
	for _, f := range forms(someSizes()...) {
		for at := -1; at <= f.size; at++ {
			refused(t, nil, at, f)
			refused(t, []byte{}, at, f)
			refused(t, make([]byte, f.size-1), at, f)
			refused(t, make([]byte, f.size-1, 4*f.size), at, f)
			refused(t, make([]byte, 0, 4*f.size), at, f)
		}
	}
}

// checkPut: what Put says of a whole number.
func checkPut(t *testing.T, b []byte, at int, f form, n *big.Int) {
	t.Helper()
	what := "Put of " + brief(n) + ", " + f.String()
	got, e := Put(b, at, f.size, f.big, f.signed, num(n))
	if !f.has(n) {
		checkBytes(t, what, got, e, nil, api.ErrLarge)
		return
	}
	checkBytes(t, what, got, e, slices.Concat(b[:at], f.bytesOf(n), b[at+f.size:]), api.OK)
}

// P5.1: all numbers that one byte and two bytes have, and some more on both sides.
func TestPutShort(t *testing.T) {
	for n := int64(-300); n <= 300; n++ {
		for _, f := range forms(1) {
			checkPut(t, []byte{7, 8, 9}, 1, f, big.NewInt(n))
		}
	}
	for n := int64(-40000); n <= 70000; n++ {
		for _, f := range forms(2) {
			checkPut(t, []byte{7, 8}, 0, f, big.NewInt(n))
		}
	}
}

// P5.1: numbers just in and just out of what the bytes hold, on each side of 0, at the first and the last place.
func TestPut(t *testing.T) {
	r := rand.New(rand.NewSource(6))
	for _, f := range forms(allSizes()...) {
		b := someBytes(r, f.size+3)
		for _, n := range f.near() {
			checkPut(t, b, 0, f, n)
			checkPut(t, b, 2, f, n)
			checkPut(t, b, 3, f, n)
			checkPut(t, b[:f.size], 0, f, n)
		}
	}
}

// P5.1: the bytes are not limited as a list's are.
func TestManyBytes(t *testing.T) {
	b := make([]byte, 2*api.MaxBytes+1)
	last := len(b) - 1
	for _, f := range forms(1) {
		checkPut(t, b, last, f, big.NewInt(5))
		checkGet(t, b, last, f)
		l, e := List(b, 1, f.big, f.signed)
		if len(l) != len(b) || e != api.OK {
			t.Errorf("List: %d, error %d", len(l), e)
		}
	}
	got, e := Copy(b, 0, b, 0, len(b))
	checkBytes(t, "Copy", got, e, b, api.OK)
}

// P5.1: a number that is not sound is told ahead of one that is not whole, and that ahead of one that is too large.
func TestPutWrongNumber(t *testing.T) {
	for _, f := range forms(1, 4, 64) {
		for _, bad := range unsound() {
			b, e := Put(make([]byte, 70), 3, f.size, f.big, f.signed, bad)
			checkBytes(t, "Put of what is not sound", b, e, nil, api.ErrForm)
		}
		for _, bad := range notWhole() {
			b, e := Put(make([]byte, 70), 3, f.size, f.big, f.signed, bad)
			checkBytes(t, "Put of what is not whole", b, e, nil, api.ErrType)
		}
	}
}

// P2: Get of Put is the number, and Put of Get leaves the bytes as they are.
func TestThereAndBack(t *testing.T) {
	r := rand.New(rand.NewSource(7))
	for _, f := range forms(allSizes()...) {
		for range 20 {
			b, at := someBytes(r, f.size+4), r.Intn(5)
			n, e := Get(b, at, f.size, f.big, f.signed)
			if e != api.OK || !exact.Sound(n) || !exact.Whole(n) {
				t.Fatalf("Get: %v, error %d", n, e)
			}
			again, e := Put(b, at, f.size, f.big, f.signed, n)
			checkBytes(t, "Put of Get", again, e, b, api.OK)
			other, e := Put(someBytes(r, f.size+4), at, f.size, f.big, f.signed, n)
			if e != api.OK {
				t.Fatalf("Put: error %d", e)
			}
			back, e := Get(other, at, f.size, f.big, f.signed)
			if e != api.OK || !exact.Same(back, n) {
				t.Errorf("Get of Put: %v, error %d; want %v", back, e, n)
			}
		}
	}
}

// wide is the number of any bytes, with a sign, cut to what a number may have.
func wide(b []byte) *big.Int {
	b = b[:min(len(b), 4*api.MaxWords)]
	n := new(big.Int).SetBytes(b)
	if len(b)%2 == 0 {
		return neg(n)
	}
	return n
}

// FuzzPlaces holds all calls against the library's arithmetic.
func FuzzPlaces(f *testing.F) {
	f.Add([]byte{1, 2, 3}, []byte{255}, 0, 2, true, false)
	f.Add([]byte{}, []byte{}, -1, 64, false, true)
	f.Fuzz(func(t *testing.T, b, c []byte, at, size int, order, signed bool) {
		for _, size := range []int{size, 1 + (size%most+most)%most} {
			way := form{size, order, signed}
			l, e := List(b, size, order, signed)
			checkList(t, way, b, l, e)
			n := wide(c)
			if size < 1 || size > most || at < 0 || at > len(b) || size > len(b)-at {
				refused(t, b, at, way)
				continue
			}
			checkGet(t, b, at, way)
			checkPut(t, b, at, way, n)
		}
		checkCopy(t, b, at, c, size, len(c))
		checkCopy(t, b, size, c, at, size)
		checkCopy(t, c, 0, b, at, size)
	})
}
