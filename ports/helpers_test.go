package ports

import (
	"bytes"
	"reflect"
	"strconv"
	"testing"

	"sextant/api"
	"sextant/datum"
)

var (
	codecs  = []int{api.Utf8, api.Latin1, api.Utf16}
	eols    = []int{api.EolNone, api.EolLf, api.EolCr, api.EolCrLf, api.EolNel, api.EolLs}
	modes   = []int{api.Raise, api.Replace, api.Ignore}
	raising = coder(api.Utf8, api.EolLf, api.Raise)
)

func coder(codec, eol, mode int) api.Coder {
	return api.Coder{Codec: codec, Eol: eol, Mode: mode}
}

// coders are all transcoders that there are.
func coders() []api.Coder {
	var out []api.Coder
	for _, codec := range codecs {
		for _, eol := range eols {
			for _, mode := range modes {
				out = append(out, coder(codec, eol, mode))
			}
		}
	}
	return out
}

// wrongCoders are none, each by one of its three alone or by all.
func wrongCoders() []api.Coder {
	out := []api.Coder{{}, coder(0, -1, -1), coder(4, 6, 3)}
	for _, x := range []int{-1 << 63, -1 << 32, -2, -1, 6, 7, 256, 1 << 32, 1<<63 - 1} {
		out = append(out, coder(x, api.EolLs, api.Raise), coder(api.Utf8, x, api.Replace), coder(api.Latin1, api.EolCr, x))
	}
	return append(out, coder(0, 0, 0), coder(4, 0, 0), coder(1, -1, 0), coder(1, 6, 0), coder(1, 0, -1), coder(1, 0, 3))
}

// brief is a text as it is told, with what is long cut off.
func brief(s string) string {
	if len(s) <= 60 {
		return strconv.Quote(s)
	}
	return strconv.Quote(s[:60]) + ".. (" + strconv.Itoa(len(s)) + " bytes)"
}

// input is a port that is read from in a test.
type input struct {
	*testing.T
	p *In
}

func opened(t *testing.T, c api.Coder, data string) input {
	t.Helper()
	p, e := Open([]byte(data), c)
	if p == nil || e != api.OK {
		t.Fatalf("Open(%s, %v): error %d", brief(data), c, e)
	}
	return input{t, p}
}

// peek: what is next, as often as it is asked for.
func (x input) peek(want rune, err api.Errno) {
	x.Helper()
	for range 3 {
		if r, e := x.p.Peek(); r != want || e != err {
			x.Errorf("Peek: %q, error %d; want %q, error %d", r, e, want, err)
		}
	}
}

func (x input) read(want rune, err api.Errno) {
	x.Helper()
	x.peek(want, err)
	if r, e := x.p.Read(); r != want || e != err {
		x.Errorf("Read: %q, error %d; want %q, error %d", r, e, want, err)
	}
}

// reads: the characters of a text, one behind the other.
func (x input) reads(want string) {
	x.Helper()
	for _, r := range want {
		x.read(r, api.OK)
	}
}

// over: nothing is left, or the fault alone, and so it stays.
func (x input) over(err api.Errno) {
	x.Helper()
	datumAtFault := api.ErrEnd // no character is left ahead of it
	for range 3 {
		x.read(0, err)
		x.line("", err)
		x.datum("", datumAtFault)
	}
}

func (x input) line(want string, err api.Errno) {
	x.Helper()
	if s, e := x.p.Line(); s != want || e != err {
		x.Errorf("Line: %s, error %d; want %s, error %d", brief(s), e, brief(want), err)
	}
}

// datum: want as chapter 8 reads it.
func (x input) datum(want string, err api.Errno) {
	x.Helper()
	var wanted api.Datum
	if err == api.OK {
		wanted = read(x.T, want)
	}
	if d, e := x.p.Datum(); !reflect.DeepEqual(d, wanted) || e != err {
		x.Errorf("Datum: %+v, error %d; want %s, error %d", d, e, brief(want), err)
	}
}

func read(t *testing.T, s string) api.Datum {
	t.Helper()
	list, _, e := datum.All(s)
	if len(list) != 1 || e != api.OK {
		t.Fatalf("All(%s): %d data, error %d", brief(s), len(list), e)
	}
	return list[0]
}

// output is a port that is written to in a test.
type output struct {
	*testing.T
	p *Out
}

func created(t *testing.T, c api.Coder, buffer int) output {
	t.Helper()
	p, e := Create(c, buffer)
	if p == nil || e != api.OK {
		t.Fatalf("Create(%v, %d): error %d", c, buffer, e)
	}
	x := output{t, p}
	x.has("")
	return x
}

func (x output) write(s string, err api.Errno) {
	x.Helper()
	if e := x.p.Write(s); e != err {
		x.Errorf("Write(%s): error %d, want %d", brief(s), e, err)
	}
}

// has: so much has been written.
func (x output) has(want string) {
	x.Helper()
	if b := x.p.Bytes(); !bytes.Equal(b, []byte(want)) {
		x.Errorf("Bytes: %s, want %s", brief(string(b)), brief(want))
	}
}

// flushed: so much has been written behind Flush, and no more behind another one.
func (x output) flushed(want string) {
	x.Helper()
	for range 3 {
		x.p.Flush()
		x.has(want)
	}
}
