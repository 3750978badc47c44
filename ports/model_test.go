package ports

import (
	"testing"
	"unicode/utf8"

	"sextant/api"
	"sextant/codec"
	"sextant/datum"
)

// reading says P20.1 and P20.2 over again: all that is left to be read laid out in a list, the fault and the end as items of it.
type reading []item

type item struct {
	r rune
	e api.Errno // of the fault and of the end
}

// readingOf: what stands ahead of a fault is decoded by another mode, which finds none there.
func readingOf(data []byte, c api.Coder) (reading, api.Errno) {
	s, at, e := codec.Decode(c, data)
	ending := api.ErrEnd
	switch e {
	case api.OK:
	case api.ErrCode:
		ending = e
		lenient := c
		lenient.Mode = api.Ignore
		s, _, _ = codec.Decode(lenient, data[:at])
	default:
		return nil, e
	}
	var list reading
	for _, r := range s {
		list = append(list, item{r, api.OK})
	}
	return append(list, item{0, ending}), api.OK
}

func (l *reading) peek() (rune, api.Errno) {
	return (*l)[0].r, (*l)[0].e
}

func (l *reading) read() (rune, api.Errno) {
	next := (*l)[0]
	if next.e == api.OK {
		*l = (*l)[1:]
	}
	return next.r, next.e
}

// ahead are the characters that are left.
func (l *reading) ahead() []rune {
	var out []rune
	for _, one := range (*l)[:len(*l)-1] {
		out = append(out, one.r)
	}
	return out
}

func (l *reading) line() (string, api.Errno) {
	characters := l.ahead()
	for n, r := range characters {
		if r == '\n' {
			*l = (*l)[n+1:]
			return string(characters[:n]), api.OK
		}
	}
	if ending := (*l)[len(*l)-1].e; ending == api.ErrCode || len(characters) == 0 {
		return "", ending
	}
	*l = (*l)[len(characters):]
	return string(characters), api.OK
}

func (l *reading) datum() (api.Datum, api.Errno) {
	text := string(l.ahead())
	d, end, e := datum.Read(text)
	for range text[:end] {
		*l = (*l)[1:]
	}
	return d, e
}

// writing says P20.3 over again: what has been written and what is kept back in two lists.
type writing struct {
	c             api.Coder
	buffer        int
	written, kept []byte
}

// encodedOneByOne: each character or bad byte by itself.
func encodedOneByOne(c api.Coder, s string) (out []byte, e api.Errno) {
	for s != "" {
		_, size := utf8.DecodeRuneInString(s)
		b, _, e := codec.Encode(c, s[:size])
		if e != api.OK {
			return nil, e
		}
		out, s = append(out, b...), s[size:]
	}
	return out, api.OK
}

func (w *writing) write(s string) api.Errno {
	b, e := encodedOneByOne(w.c, s)
	if e != api.OK {
		return e
	}
	if len(w.written)+len(w.kept)+len(b) > api.MaxBytes {
		return api.ErrLarge
	}
	w.kept = append(w.kept, b...)
	if len(w.kept) > w.buffer {
		w.flush()
	}
	return api.OK
}

func (w *writing) flush() {
	w.written, w.kept = append(w.written, w.kept...), nil
}

// What the tests' own calls say of themselves, lest both be wrong alike.
func TestModel(t *testing.T) {
	l, e := readingOf([]byte("a\nπ\xff"), raising)
	if e != api.OK || string(l.ahead()) != "a\nπ" || l[3].e != api.ErrCode {
		t.Errorf("readingOf: %v, %d", l, e)
	}
	for s, want := range map[string]string{"aπ\xffé": "a\xe9", "\U0001f600\xe2\x80b": "b", "\xc3\xa9\xc3": "\xe9", "\ufffd\xed\xa0\x80": ""} {
		if b, e := encodedOneByOne(coder(api.Latin1, api.EolNone, api.Ignore), s); string(b) != want || e != api.OK {
			t.Errorf("encodedOneByOne(%q): %q, %d", s, b, e)
		}
	}
	if b, e := encodedOneByOne(coder(api.Utf8, api.EolNone, api.Replace), "\ufffd\xe2\x80b\xff"); string(b) != "\ufffd\ufffd\ufffdb\ufffd" || e != api.OK {
		t.Errorf("encodedOneByOne: %q, %d", b, e)
	}
}
