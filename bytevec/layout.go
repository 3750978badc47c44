package bytevec

import (
	"bytes"
	"slices"

	"sextant/api"
	"sextant/bits"
	"sextant/exact"
)

const (
	mostSize  = 64 // bytes of a number
	byteBits  = 8
	wordBytes = 4
	signBit   = 1 << (byteBits - 1) // of the highest byte
)

// layout is how a whole number stands in its bytes.
type layout struct {
	size        int
	big, signed bool
}

func (l layout) allowed() bool {
	return l.size >= 1 && l.size <= mostSize
}

// number is what the bytes of place, so many as l has, are.
func (l layout) number(place []byte) api.Num {
	low := l.reordered(place)
	if !l.signed || low[l.size-1] < signBit {
		return natural(low)
	}
	// What two's complement has for a number below 0 is, with all bits turned, the natural number of which it is Not.
	for i := range low {
		low[i] = ^low[i]
	}
	n, _ := bits.Not(natural(low))
	return n
}

// laid is a whole number as bytes: ErrLarge, if they have no room for it.
func (l layout) laid(n api.Num) ([]byte, api.Errno) {
	length, e := bits.Length(n)
	if e != api.OK {
		return nil, e
	}
	if n.Re.Neg && !l.signed || length > l.room() {
		return nil, api.ErrLarge
	}
	field, _ := bits.Field(n, 0, l.size*byteBits)
	low := make([]byte, l.size)
	for i := range min(l.size, len(field.Re.Top)*wordBytes) {
		low[i] = byte(field.Re.Top[i/wordBytes] >> (i % wordBytes * byteBits))
	}
	return l.reordered(low), api.OK
}

// room: how many bits the bytes have without a sign.
func (l layout) room() int {
	if l.signed {
		return l.size*byteBits - 1
	}
	return l.size * byteBits
}

// reordered is a copy of a number's bytes, from the order in which they stand to the lowest first or back: both ways are one.
func (l layout) reordered(list []byte) []byte {
	out := make([]byte, l.size)
	copy(out, list)
	if l.big {
		slices.Reverse(out)
	}
	return out
}

// natural is the number of bytes without a sign, the lowest first.
func natural(low []byte) api.Num {
	low = bytes.TrimRight(low, "\x00") // a number's last word is not 0
	words := make([]uint32, (len(low)+wordBytes-1)/wordBytes)
	for i, x := range low {
		words[i/wordBytes] |= uint32(x) << (i % wordBytes * byteBits)
	}
	n := exact.Int(0)
	n.Re.Top = words
	return n
}
