package ports

import (
	"bytes"
	"math/rand"
	"reflect"
	"testing"

	"sextant/api"
)

// piecesOf are what drawn bytes and texts are made of: line ends, characters of each length, data, and what no codec has.
func piecesOf() []string {
	return []string{
		"a", "b c", "\n", "\r", "\r\n", "\u0085", "\u2028", "é", "π", "\U0001f600", "\ufffd", "\ufeff", "\xff", "\xc3", "\xed\xa0\x80", "\x00", "\x00a", "\x00\n", "\xd8\x00", "\xd8\x3d\xde\x00",
		"(a b)", "(", ")", " ", "; remark", "#|", "|#", "#;", "'", "12", "1/2", "#\\a", "\"s\"", "\"", "#(1 #t)", "#vu8(1)",
	}
}

func drawnText(r *rand.Rand, most int) string {
	pieces := piecesOf()
	usual := pieces[:4]
	if r.Intn(2) == 0 {
		usual = pieces[20:]
	}
	text := ""
	for range r.Intn(most) {
		if r.Intn(3) == 0 {
			text += pieces[r.Intn(len(pieces))]
		} else {
			text += usual[r.Intn(len(usual))]
		}
	}
	return text
}

func drawnCoder(r *rand.Rand) api.Coder {
	return coder(codecs[r.Intn(3)], eols[r.Intn(6)], modes[r.Intn(3)])
}

// follow reads by calls, of which each byte names one, and holds each answer against the model's; it counts the answers by call and error.
func follow(t *testing.T, data []byte, c api.Coder, calls []byte, seen map[[2]int]int) {
	p, e := Open(data, c)
	l, want := readingOf(data, c)
	if e != want || (p == nil) != (want != api.OK) {
		t.Fatalf("Open(%s, %v): error %d, want %d", brief(string(data)), c, e, want)
	}
	if e != api.OK {
		return
	}
	for n, call := range calls {
		var got, wanted any
		var e, want api.Errno
		switch call %= 6; call {
		case 0, 1:
			got, e = p.Read()
			wanted, want = l.read()
		case 2:
			got, e = p.Peek()
			wanted, want = l.peek()
		case 3:
			got, e = p.Line()
			wanted, want = l.line()
		default:
			got, e = p.Datum()
			wanted, want = l.datum()
		}
		if e != want || !reflect.DeepEqual(got, wanted) {
			t.Fatalf("%s, %v: call %d of %v: %+v, error %d; want %+v, error %d", brief(string(data)), c, n, calls[:n+1], got, e, wanted, want)
		}
		seen[[2]int{int(call), int(e)}]++
	}
}

// P20.1, P20.2: drawn bytes, read by drawn calls.
func TestDrawnReads(t *testing.T) {
	r := rand.New(rand.NewSource(20))
	seen := map[[2]int]int{}
	for range 20000 {
		calls := make([]byte, 1+r.Intn(16))
		for i := range calls {
			calls[i] = byte(r.Intn(6))
		}
		follow(t, []byte(drawnText(r, 14)), drawnCoder(r), calls, seen)
	}
	for call, errors := range map[int][]api.Errno{
		0: {api.OK, api.ErrEnd, api.ErrCode}, 2: {api.OK, api.ErrEnd, api.ErrCode}, 3: {api.OK, api.ErrEnd, api.ErrCode}, 4: {api.OK, api.ErrEnd, api.ErrText},
	} {
		for _, e := range errors {
			if n := seen[[2]int{call, int(e)}]; n < 100 {
				t.Errorf("call %d has answered error %d only %d times", call, e, n)
			}
		}
	}
}

// checkWrites writes each text to a port and to the model, and flushes both where an empty text stands at an even place.
func checkWrites(t *testing.T, c api.Coder, buffer int, texts []string, seen map[api.Errno]int) {
	p, e := Create(c, buffer)
	if e != api.OK {
		t.Fatalf("Create(%v, %d): error %d", c, buffer, e)
	}
	w := writing{c: c, buffer: buffer}
	for n, s := range texts {
		if s == "" && n%2 == 0 {
			p.Flush()
			w.flush()
		} else if e, want := p.Write(s), w.write(s); e != want {
			t.Fatalf("%v, buffer %d: Write %d of %s: error %d, want %d", c, buffer, n, brief(s), e, want)
		} else {
			seen[e]++
		}
		if b := p.Bytes(); !bytes.Equal(b, w.written) {
			t.Fatalf("%v, buffer %d, behind step %d: %s, want %s", c, buffer, n, brief(string(b)), brief(string(w.written)))
		}
	}
}

// P20.3: drawn texts, short and long, and buffers.
func TestDrawnWrites(t *testing.T) {
	r := rand.New(rand.NewSource(21))
	seen := map[api.Errno]int{}
	buffers := []int{0, 1, 2, 3, 10, 100, 20000, api.MaxBytes, 1 << 40}
	for n := range 4000 {
		texts := make([]string, 1+r.Intn(12))
		for i := range texts {
			texts[i] = drawnText(r, 6)
			if n%40 == 0 && texts[i] != "" {
				texts[i] = string(bytes.Repeat([]byte(texts[i]), r.Intn(2*api.MaxBytes/len(texts[i]))))
			}
		}
		checkWrites(t, drawnCoder(r), buffers[r.Intn(len(buffers))], texts, seen)
	}
	for _, e := range []api.Errno{api.OK, api.ErrCode, api.ErrLarge} {
		if seen[e] < 100 {
			t.Errorf("Write has answered error %d only %d times", e, seen[e])
		}
	}
}

// What follows: Bytes, behind Flush, is Encode of all that was written, whole characters each, however it was cut.
func TestWritesTogether(t *testing.T) {
	r := rand.New(rand.NewSource(22))
	for range 2000 {
		c := drawnCoder(r)
		p, _ := Create(c, r.Intn(8))
		all := ""
		for range r.Intn(10) {
			s := string([]rune(drawnText(r, 5))) // without bad bytes
			if p.Write(s) == api.OK {
				all += s
			}
		}
		p.Flush()
		want, e := encodedOneByOne(c, all)
		if b := p.Bytes(); !bytes.Equal(b, want) || e != api.OK {
			t.Errorf("%v, %s: %q, want %q", c, brief(all), b, want)
		}
	}
}

func FuzzReads(f *testing.F) {
	f.Add([]byte("a\r\nb\xff"), 0, 1, 0, []byte{0, 3, 3, 0, 0})
	f.Add([]byte("(a b) c"), 0, 0, 0, []byte{4, 0, 4, 4})
	f.Add([]byte("\xff\xfea\x00\x00\xd8"), 2, 2, 1, []byte{2, 0, 3, 4})
	f.Fuzz(func(t *testing.T, data []byte, codec, eol, mode int, calls []byte) {
		if len(calls) < 200 {
			follow(t, data, coder(codec, eol, mode), calls, map[[2]int]int{})
		}
	})
}

func FuzzWrites(f *testing.F) {
	f.Add("a\n", "é", "", "π", uint8(1), uint8(2), uint8(0), uint8(3), uint16(1))
	f.Add("\xc3", "\xa9", "\ufeff", "\U0001f600", uint8(2), uint8(5), uint8(1), uint8(0), uint16(20000))
	f.Fuzz(func(t *testing.T, a, b, c, d string, codec, eol, mode, buffer uint8, times uint16) {
		if len(a)*int(times) > 2*api.MaxBytes {
			return
		}
		long := string(bytes.Repeat([]byte(a), int(times)))
		checkWrites(t, coder(codecs[codec%3], eols[eol%6], modes[mode%3]), int(buffer), []string{a, b, "", c, long, d, "", b, long, a}, map[api.Errno]int{})
	})
}
