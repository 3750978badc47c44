package bytevec

import (
	"bytes"
	"math/rand"
	"slices"
	"testing"

	"sextant/api"
	"sextant/exact"
)

func checkList(t *testing.T, f form, b []byte, got []api.Num, e api.Errno) {
	t.Helper()
	if f.size < 1 || f.size > most || len(b)%f.size != 0 {
		if len(got) != 0 || e != api.ErrArg {
			t.Errorf("List of %d bytes, %s: %d numbers, error %d", len(b), f, len(got), e)
		}
		return
	}
	if len(got) != len(b)/f.size {
		t.Fatalf("List of %d bytes, %s: %d numbers, error %d", len(b), f, len(got), e)
	}
	for i, n := range got {
		checkNum(t, "List, "+f.String(), n, e, f.numberOf(b[i*f.size:(i+1)*f.size]))
	}
}

// P5.2: bytes of each length, those that the size divides and those that it does not, and none at all.
func TestList(t *testing.T) {
	r := rand.New(rand.NewSource(8))
	for _, f := range forms(append(allSizes(), wrongSizes()...)...) {
		for length := range 140 {
			b := someBytes(r, length)
			got, e := List(b, f.size, f.big, f.signed)
			checkList(t, f, b, got, e)
		}
		got, e := List(nil, f.size, f.big, f.signed)
		checkList(t, f, nil, got, e)
	}
}

func checkOf(t *testing.T, list []api.Num, f form, want []byte, err api.Errno) {
	t.Helper()
	got, e := Of(list, f.size, f.big, f.signed)
	checkBytes(t, "Of, "+f.String(), got, e, want, err)
}

// P5.2: lists of each short length; List is the way back.
func TestOf(t *testing.T) {
	r := rand.New(rand.NewSource(9))
	for _, f := range forms(allSizes()...) {
		checkOf(t, nil, f, nil, api.OK)
		checkOf(t, []api.Num{}, f, nil, api.OK)
		for count := range 12 {
			b := someBytes(r, f.size*count)
			var list []api.Num
			for place := range slices.Chunk(b, f.size) {
				list = append(list, num(f.numberOf(place)))
			}
			checkOf(t, list, f, b, api.OK)
			back, e := List(b, f.size, f.big, f.signed)
			if e != api.OK || !slices.EqualFunc(back, list, exact.Same) {
				t.Errorf("List of Of, %s: %v, error %d", f, back, e)
			}
		}
	}
}

// P5.2: a wrong size is told ahead of a list that is too long and of a wrong number.
func TestOfWrongSize(t *testing.T) {
	long := make([]api.Num, api.MaxBytes+1)
	for _, f := range forms(wrongSizes()...) {
		checkOf(t, nil, f, nil, api.ErrArg)
		checkOf(t, []api.Num{exact.Int(1)}, f, nil, api.ErrArg)
		checkOf(t, []api.Num{{}}, f, nil, api.ErrArg)
		checkOf(t, long, f, nil, api.ErrArg)
	}
}

// P5.2: just MaxBytes over size numbers and one more, where the size divides MaxBytes and where it does not.
func TestOfLong(t *testing.T) {
	for _, size := range allSizes() {
		f := form{size, size%2 == 0, size%3 == 0}
		count := api.MaxBytes / size
		place := make([]byte, size)
		place[0], place[size-1] = 5, 0x81
		list := slices.Repeat([]api.Num{num(f.numberOf(place))}, count+1)
		checkOf(t, list[:count], f, bytes.Repeat(place, count), api.OK)
		checkOf(t, list, f, nil, api.ErrLarge)
	}
}

// P5.2: a list that is too long is told ahead of its numbers, one of which would be refused for another cause.
func TestOfLongAndWrong(t *testing.T) {
	for _, f := range forms(1, 3, 64) {
		count := api.MaxBytes / f.size
		for _, bad := range []api.Num{{}, complexNum("1/2", "0")} {
			list := slices.Repeat([]api.Num{exact.Int(1)}, count+1)
			list[0] = bad
			checkOf(t, list, f, nil, api.ErrLarge)
			list[0], list[count] = list[count], list[0]
			checkOf(t, list, f, nil, api.ErrLarge)
			_, want := Put(make([]byte, f.size), 0, f.size, f.big, f.signed, bad)
			checkOf(t, list[1:], f, nil, want)
		}
	}
}

// P5.2: the first number that would be refused tells the error, whatever comes later.
func TestOfFirstError(t *testing.T) {
	wrong := []struct {
		n api.Num
		e api.Errno
	}{
		{api.Num{}, api.ErrForm},
		{complexNum("0", "1"), api.ErrType},
		{num(pow2(8 * most)), api.ErrLarge},
	}
	good := exact.Int(1)
	for _, f := range forms(someSizes()...) {
		for _, first := range wrong {
			for _, later := range wrong {
				checkOf(t, []api.Num{first.n, later.n}, f, nil, first.e)
				checkOf(t, []api.Num{good, first.n, good, later.n, good}, f, nil, first.e)
			}
			checkOf(t, []api.Num{good, good, first.n}, f, nil, first.e)
		}
	}
}

// P5.2: numbers just in and just out of what the bytes hold.
func TestOfEnds(t *testing.T) {
	for _, f := range forms(allSizes()...) {
		for _, n := range f.near() {
			if f.has(n) {
				checkOf(t, []api.Num{exact.Int(0), num(n)}, f, append(make([]byte, f.size), f.bytesOf(n)...), api.OK)
			} else {
				checkOf(t, []api.Num{exact.Int(0), num(n)}, f, nil, api.ErrLarge)
			}
		}
	}
}
