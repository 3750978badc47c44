package nat

import (
	"math"
	"slices"
	"testing"

	"sextant/api"
)

// P2.1: Sound.
func TestSound(t *testing.T) {
	for _, a := range edges() {
		if !Sound(a) {
			t.Errorf("Sound(%s) is false", brief(a))
		}
	}
	for _, a := range unsound() {
		if Sound(a) {
			t.Errorf("Sound of %d words, the last one %d, is true", len(a), a[len(a)-1])
		}
	}
	if !Sound(append(list(api.MaxWords-1, 0), 1)) {
		t.Error("noughts below the top are fine")
	}
}

// P2.1: Of.
func TestOf(t *testing.T) {
	for _, c := range []struct {
		n    uint64
		want []uint32
	}{
		{0, nil},
		{1, []uint32{1}},
		{allBits, []uint32{allBits}},
		{1 << 32, []uint32{0, 1}},
		{1<<32 + 7, []uint32{7, 1}},
		{0x123456789abcdef0, []uint32{0x9abcdef0, 0x12345678}},
		{math.MaxUint64, []uint32{allBits, allBits}},
	} {
		if got := Of(c.n); !slices.Equal(got, c.want) {
			t.Errorf("Of(%d) is %v; want %v", c.n, got, c.want)
		}
	}
}

// P2.1: Cmp of numbers.
func TestCmp(t *testing.T) {
	for a, b := range pairs {
		if got, want := Cmp(a, b), bigOf(a).Cmp(bigOf(b)); got != want {
			t.Errorf("Cmp(%s, %s) is %d; want %d", brief(a), brief(b), got, want)
		}
		if got := Cmp(a, slices.Clone(a)); got != 0 {
			t.Errorf("Cmp(%s, the same) is %d", brief(a), got)
		}
	}
	if Cmp(nil, []uint32{}) != 0 || Cmp([]uint32{}, nil) != 0 {
		t.Error("nil and empty lists are the same")
	}
	for i := range 5 {
		high, low := []uint32{3, 3, 3, 3, 3}, []uint32{allBits, allBits, allBits, allBits, allBits}
		copy(low[i:], high[i:])
		low[i]--
		if i < 4 && (Cmp(low, high) != -1 || Cmp(high, low) != 1) {
			t.Errorf("word %d tells, not those below it", i)
		}
	}
}

// P2.1: Cmp and Bits of what is no number.
func TestNothingOfUnsound(t *testing.T) {
	for a, b := range wrongPairs {
		if got := Cmp(a, b); got != 0 {
			t.Errorf("Cmp of %d and %d words, not sound, is %d", len(a), len(b), got)
		}
	}
	for _, a := range unsound() {
		if got := Bits(a); got != 0 {
			t.Errorf("Bits of %d words, not sound, is %d", len(a), got)
		}
	}
}

// P2.1: Bits of numbers.
func TestBits(t *testing.T) {
	for _, a := range append(edges(), some(300, 50)...) {
		if got, want := Bits(a), bigOf(a).BitLen(); got != want {
			t.Errorf("Bits(%s) is %d; want %d", brief(a), got, want)
		}
	}
	for n := range api.MaxWords * 32 {
		a, e := Shift([]uint32{1}, n)
		if got := Bits(a); e != api.OK || got != n+1 {
			t.Errorf("Bits of 2 to the power %d is %d, error %d", n, got, e)
		}
	}
}
