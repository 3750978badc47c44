package ports

import (
	"sextant/api"
	"sextant/codec"
)

// buffered are bytes of which the first ones have been written, and the others are kept back.
type buffered struct {
	bytes   []byte
	written int
}

// room: how many more there may be.
func (b *buffered) room() int {
	return api.MaxBytes - len(b.bytes)
}

func (b *buffered) kept() int {
	return len(b.bytes) - b.written
}

func (b *buffered) keep(more []byte) {
	b.bytes = append(b.bytes, more...)
}

func (b *buffered) flush() {
	b.written = len(b.bytes)
}

// copied are those that have been written.
func (b *buffered) copied() []byte {
	return append([]byte(nil), b.bytes[:b.written]...)
}

// encoded: the bytes of a text, if they are no more than there is room for. A text of which few bytes come may be longer than what codec takes at once.
func encoded(c api.Coder, s string, room int) ([]byte, api.Errno) {
	var out []byte
	fits := true
	for {
		size := pieceSize(s)
		b, _, e := codec.Encode(c, s[:size])
		if e != api.OK {
			return nil, e
		}
		fits = fits && len(out)+len(b) <= room
		if fits {
			out = append(out, b...)
		}
		s = s[size:]
		if s == "" {
			break
		}
	}
	if !fits {
		return nil, api.ErrLarge
	}
	return out, api.OK
}
