package ports

import (
	"bytes"
	"reflect"
	"slices"
	"strings"
	"testing"
	"unsafe"

	"sextant/api"
)

// piece is memory that a list or a text has, from its first byte to the one behind its last.
type piece struct{ from, to uintptr }

func pieceOf[T any](list []T) piece {
	from := uintptr(unsafe.Pointer(unsafe.SliceData(list)))
	return piece{from, from + uintptr(cap(list))*unsafe.Sizeof(*new(T))}
}

func textPiece(s string) piece { return pieceOf(unsafe.Slice(unsafe.StringData(s), len(s))) }

// dataPieces are all of a list of data, room included.
func dataPieces(data []api.Datum) []piece {
	out := []piece{pieceOf(data)}
	for _, d := range data {
		out = append(out, textPiece(d.Text), pieceOf(d.Raw), pieceOf(d.Num.Re.Top), pieceOf(d.Num.Re.Bot), pieceOf(d.Num.Im.Top), pieceOf(d.Num.Im.Bot))
		out = append(out, dataPieces(d.List)...)
	}
	return out
}

// apart: does no piece of memory stand in two of them?
func apart(lists ...[]piece) bool {
	all := slices.DeleteFunc(slices.Concat(lists...), func(p piece) bool { return p.from == p.to })
	slices.SortFunc(all, func(a, b piece) int { return int(a.from) - int(b.from) })
	for i := 1; i < len(all); i++ {
		if all[i].from < all[i-1].to {
			return false
		}
	}
	return true
}

// P20.1, R4: Open leaves what it was given, spare room included, and does not keep it.
func TestOpenLeavesWhatItWasGiven(t *testing.T) {
	for _, c := range coders() {
		for _, text := range []string{"(a b) \"c\"\r\nd\x85\u2028\xffe", "\xff\xfea\x00\r\x00\n\x00", "", "\xff", "plain text"} {
			data := append([]byte(text), "room"...)[:len(text)]
			before := bytes.Clone(data[:cap(data)])
			p, _ := Open(data, c)
			other, _ := Open(bytes.Clone(data), c)
			if !bytes.Equal(before, data[:cap(data)]) {
				t.Errorf("Open has changed %q", text)
			}
			if !apart([]piece{pieceOf(data)}, []piece{textPiece(p.left)}) {
				t.Errorf("Open keeps %q", text)
			}
			for i := range data[:cap(data)] {
				data[:cap(data)][i] = '#'
			}
			for range 2 * len(before) {
				r, e := p.Read()
				if want, wantErr := other.Read(); r != want || e != wantErr {
					t.Errorf("%q: Read behind writing over it: %q, error %d; want %q, error %d", text, r, e, want, wantErr)
				}
			}
		}
	}
}

// P20.2, R4: what Line and Datum answer is memory of nobody else, and is nothing of the port's.
func TestReadAnswersAreNew(t *testing.T) {
	const text = "a line of text\n(symbol \"string\" #vu8(1 2 3) 123456789012345678901234567890/7+5i #(x #\\y ()) . 'z) another\nlast line"
	p, _ := Open([]byte(text), raising)
	whole := textPiece(p.left)
	line, _ := p.Line()
	d, _ := p.Datum()
	word, _ := p.Datum()
	empty, _ := p.Line()
	last, e := p.Line()
	if e != api.OK || empty != "" || last != "last line" || word.Text != "another" {
		t.Fatalf("%q, %q, %d", empty, last, e)
	}
	answers := []piece{whole, textPiece(line), textPiece(last)}
	if !apart(answers, dataPieces([]api.Datum{d}), dataPieces([]api.Datum{word})) {
		t.Error("answers share memory with one another, or with the port")
	}
	again, _ := Open([]byte(text), raising)
	again.Line()
	if want, _ := again.Datum(); !reflect.DeepEqual(d, want) {
		t.Error("a second port answers another datum")
	}
}

// P20.3, R4: what Bytes answers may be written over, room included, and no later Write changes it.
func TestBytesAreNew(t *testing.T) {
	x := created(t, raising, 2)
	want := ""
	var answers [][]byte
	var wanted []string
	for n := range 200 {
		s := strings.Repeat(string(rune('a'+n%26)), n%7)
		if n%50 == 9 {
			x.p.Flush()
		}
		x.write(s, api.OK)
		want += s
		b := x.p.Bytes()
		if !strings.HasPrefix(want, string(b)) || len(want)-len(b) > 2 {
			t.Errorf("Bytes: %s of %s", brief(string(b)), brief(want))
		}
		if n%2 == 0 {
			for i := range b[:cap(b)] {
				b[:cap(b)][i] = '#'
			}
			continue
		}
		answers, wanted = append(answers, b), append(wanted, string(b))
	}
	x.flushed(want)
	pieces := []piece{pieceOf(x.p.bytes)}
	for n, b := range answers {
		pieces = append(pieces, pieceOf(b))
		if string(b) != wanted[n] {
			t.Errorf("answer %d has been changed", n)
		}
	}
	if !apart(pieces) {
		t.Error("answers of Bytes share memory with one another, or with the port")
	}
}

// R5: ports have nothing in common.
func TestPortsAreApart(t *testing.T) {
	data := []byte("abc\ndef")
	a, b := opened(t, raising, string(data)), opened(t, raising, string(data))
	a.line("abc", api.OK)
	a.reads("def")
	b.reads("abc\ndef")
	x, y := created(t, raising, 1), created(t, raising, 1)
	x.write("ab", api.OK)
	y.write("c", api.OK)
	x.has("ab")
	y.flushed("c")
}
