package nat

import (
	"math"
	"slices"

	"sextant/api"
	"sextant/words"
)

// digits: those of all radixes, each at its value.
const digits = "0123456789abcdefghijklmnopqrstuvwxyz"

// Text: its digits.
func Text(a []uint32, radix int) (string, api.Errno) {
	if !Sound(a) {
		return "", api.ErrForm
	}
	if !isRadix(radix) {
		return "", api.ErrArg
	}
	if len(a) == 0 {
		return "0", api.OK
	}
	return digitsOf(a, uint32(radix)), api.OK
}

// Read: the number that digits are.
func Read(s string, radix int) ([]uint32, api.Errno) {
	if !isRadix(radix) {
		return nil, api.ErrArg
	}
	if !isNumeral(s, radix) {
		return nil, api.ErrText
	}
	if len(s) > api.MaxShift {
		return nil, api.ErrLarge
	}
	return valueOf(s, uint32(radix))
}

func isRadix(radix int) bool {
	return 2 <= radix && radix <= len(digits)
}

func isNumeral(s string, radix int) bool {
	for i := range len(s) {
		if digitValue(s[i]) >= radix {
			return false
		}
	}
	return s != ""
}

// digitValue answers what a digit is worth, and for another byte more than any radix has.
func digitValue(c byte) int {
	switch {
	case '0' <= c && c <= '9':
		return int(c - '0')
	case 'a' <= c && c <= 'z':
		return int(c-'a') + 10
	case 'A' <= c && c <= 'Z':
		return int(c-'A') + 10
	}
	return len(digits)
}

// group answers how many digits always fit into one word: numbers are taken apart and put together by so many at once.
func group(radix uint32) (size int, power uint32) {
	power = 1
	for power <= math.MaxUint32/radix {
		power *= radix
		size++
	}
	return size, power
}

// digitsOf answers the digits of a number that is not 0.
func digitsOf(a []uint32, radix uint32) string {
	size, power := group(radix)
	var lowestFirst []byte
	for len(a) > 0 {
		var left uint32
		a, left = words.DivideByWord(a, power)
		for range size {
			lowestFirst = append(lowestFirst, digits[left%radix])
			left /= radix
		}
	}
	end := len(lowestFirst)
	for lowestFirst[end-1] == '0' {
		end--
	}
	out := lowestFirst[:end]
	slices.Reverse(out)
	return string(out)
}

// valueOf puts a numeral together, a group of its digits at a time; the first group takes those that the others leave over.
func valueOf(s string, radix uint32) ([]uint32, api.Errno) {
	size, _ := group(radix)
	var a []uint32
	value, power := uint32(0), uint32(1)
	for i := range len(s) {
		value = value*radix + uint32(digitValue(s[i]))
		power *= radix
		if (len(s)-1-i)%size != 0 {
			continue
		}
		a = timesPlus(a, power, value)
		if len(a) > api.MaxWords {
			return nil, api.ErrLarge
		}
		value, power = 0, 1
	}
	return a, api.OK
}

// timesPlus answers a times w, plus the word more; the list is its own from now on.
func timesPlus(a []uint32, w, more uint32) []uint32 {
	carry := uint64(more)
	for i := range len(a) {
		carry += uint64(a[i]) * uint64(w)
		a[i] = uint32(carry)
		carry >>= 32
	}
	if carry == 0 {
		return a
	}
	return append(a, uint32(carry))
}
