package bits

import (
	"math/bits"

	"sextant/api"
	"sextant/nat"
)

// wordBits: how many bits a word has.
const wordBits = 32

// row is a whole number as a row of bits without end. Of a number a from 0 on, low is a; of one below 0 it is -a - 1, the row with all bits turned, so that low is a natural number of either, and one sign tells all the bits above it.
type row struct {
	neg bool
	low []uint32
}

// rowOf is the row of a whole number. Its list is new.
func rowOf(a api.Num) row {
	low, _ := nat.Sub(a.Re.Top, turnStep(a.Re.Neg))
	return row{neg: a.Re.Neg, low: low}
}

// number is the whole number of the row: ErrLarge, if its size is too long, which it may be by the one that is added.
func (r row) number() (api.Num, api.Errno) {
	size, e := nat.Add(r.low, turnStep(r.neg))
	if e != api.OK {
		return api.Num{}, e
	}
	return whole(r.neg, size), api.OK
}

// turnStep is how far a number's size is above its row's list.
func turnStep(neg bool) []uint32 {
	if neg {
		return nat.Of(1)
	}
	return nat.Of(0)
}

// endless is the word that the row has without end above its list.
func (r row) endless() uint32 {
	if r.neg {
		return ^uint32(0)
	}
	return 0
}

// wordAt is the row's word at i.
func (r row) wordAt(i int) uint32 {
	if i >= len(r.low) {
		return r.endless()
	}
	return r.low[i] ^ r.endless()
}

// turned is the row with all bits turned.
func (r row) turned() row {
	return row{neg: !r.neg, low: r.low}
}

// combined is the row whose words are those of two rows, put together.
func (r row) combined(of func(x, y uint32) uint32, s row) row {
	out := row{neg: of(r.endless(), s.endless()) != 0}
	out.low = make([]uint32, max(len(r.low), len(s.low)))
	for i := range out.low {
		out.low[i] = of(r.wordAt(i), s.wordAt(i)) ^ out.endless()
	}
	out.low = trim(out.low)
	return out
}

// down is the row without its n lowest bits; n is from 0 to MaxShift.
func (r row) down(n int) row {
	low, _ := nat.Shift(r.low, -n)
	return row{neg: r.neg, low: low}
}

// lowest is the natural number of the row's lowest bits, so many.
func (r row) lowest(count int) []uint32 {
	out := make([]uint32, (count+wordBits-1)/wordBits)
	for i := range out {
		out[i] = r.wordAt(i)
	}
	if over := count % wordBits; over > 0 {
		out[len(out)-1] &= 1<<over - 1
	}
	return trim(out)
}

// ones: how many bits are 1.
func ones(a []uint32) int {
	n := 0
	for _, word := range a {
		n += bits.OnesCount32(word)
	}
	return n
}

// trim leaves off the noughts on top. What it answers shares a's memory: a is always a list that this package made.
func trim(a []uint32) []uint32 {
	for len(a) > 0 && a[len(a)-1] == 0 {
		a = a[:len(a)-1]
	}
	return a
}
