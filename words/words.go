// Package words reckons with natural numbers of any length: lists of words of 32 bits, the lowest first, the last one not 0. The layers that answer numbers stand on it and set their limits themselves, since what they reckon on the way has none. All lists that are handed in are such numbers; all that are answered are new memory.
package words

import (
	"cmp"
	"math/bits"
)

// wordBits: how many bits a word has.
const wordBits = 32

// Of: a number's words.
func Of(n uint64) []uint32 {
	return trim([]uint32{uint32(n), uint32(n >> wordBits)})
}

// Order: -1, 0 or 1.
func Order(a, b []uint32) int {
	if len(a) != len(b) {
		return cmp.Compare(len(a), len(b))
	}
	for i := range len(a) {
		k := len(a) - 1 - i
		if a[k] != b[k] {
			return cmp.Compare(a[k], b[k])
		}
	}
	return 0
}

// Bits: how many bits it has.
func Bits(a []uint32) int {
	if len(a) == 0 {
		return 0
	}
	last := len(a) - 1
	return last*wordBits + bits.Len32(a[last])
}

// trim leaves off the noughts on top. What it answers shares a's memory: a is always a list that this package made.
func trim(a []uint32) []uint32 {
	for len(a) > 0 && a[len(a)-1] == 0 {
		a = a[:len(a)-1]
	}
	return a
}

// wordAt answers the word at i, and 0 above the top.
func wordAt(a []uint32, i int) uint32 {
	if i >= len(a) {
		return 0
	}
	return a[i]
}
