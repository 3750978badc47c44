package codec

import (
	"bytes"
	"slices"
	"strings"
	"testing"
)

// someInputs are empty, sound and faulty, for each of the codecs.
func someInputs() []string {
	return []string{
		"", "a", "abc\r\ndef\n", "é\u0085\u2028\U0001f600", "a\xffb\x80", "\xff\xfea\x00\n\x00", "\xfe\xff\x00a\xd8\x00", "\x00a\x00",
		strings.Repeat("0123456789", 100), strings.Repeat("\r\n\xff", 100),
	}
}

// spoil writes over all of some bytes, spare room included.
func spoil(b []byte) {
	b = b[:cap(b)]
	for i := range b {
		b[i] ^= 0x55
	}
}

// R4: bytes that are handed in stay as they are, spare room included, and what comes of them afterwards is nothing to the answer.
func TestMemoryOfDecode(t *testing.T) {
	for _, c := range coders() {
		for _, in := range someInputs() {
			whole := slices.Concat([]byte(in), bytes.Repeat([]byte{0xAB}, 9))
			kept := slices.Clone(whole)
			s, _, _ := Decode(c, whole[:len(in)])
			if !bytes.Equal(whole, kept) {
				t.Fatalf("%v: what was handed in is changed: %q", c, in)
			}
			was := strings.Clone(s)
			spoil(whole)
			if s != was {
				t.Fatalf("%v: the answer shares memory with what was handed in: %q", c, in)
			}
			if again, _, _ := Decode(c, []byte(in)); again != was {
				t.Fatalf("%v: another answer the second time: %q", c, in)
			}
		}
	}
}

// R4: what comes of an answer afterwards is nothing to the text or to another answer.
func TestMemoryOfEncode(t *testing.T) {
	for _, c := range coders() {
		for _, in := range someInputs() {
			text := string([]byte(in))
			first, _, _ := Encode(c, text)
			second, _, _ := Encode(c, text)
			kept, room := slices.Clone(second), slices.Clone(second[:cap(second)])
			spoil(first)
			if text != in {
				t.Fatalf("%v: the answer shares memory with what was handed in: %q", c, in)
			}
			if !bytes.Equal(second[:cap(second)], room) {
				t.Fatalf("%v: two answers share memory: %q", c, in)
			}
			if third, _, _ := Encode(c, text); !bytes.Equal(third, kept) {
				t.Fatalf("%v: another answer the third time: %q", c, in)
			}
		}
	}
}
