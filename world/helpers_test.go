package world

import (
	"bytes"
	"maps"
	"math"
	"slices"
	"strconv"
	"strings"
	"testing"

	"sextant/api"
)

// The limits written out, so that the tests do not follow a slip of the program's.
const (
	mostBytes   = 65536
	mostFiles   = 64
	longestName = 255
	maxInt      = math.MaxInt
	minInt      = math.MinInt
)

// filled is so many bytes, no two next to each other alike.
func filled(n int) []byte {
	out := make([]byte, n)
	for i := range out {
		out[i] = byte(i%251 + 1)
	}
	return out
}

func nameOf(length int) string {
	return strings.Repeat("n", length)
}

// world is one with files of names and data by turns.
func world(in, out string, files ...string) api.World {
	w := api.World{In: []byte(in), Out: []byte(out)}
	for f := range slices.Chunk(files, 2) {
		w.Files = append(w.Files, api.File{Name: f[0], Data: []byte(f[1])})
	}
	return w
}

// numbered is a world with so many files, f010, f020, f030 and so on.
func numbered(count int) api.World {
	w := world("in", "out")
	for i := range count {
		w.Files = append(w.Files, api.File{Name: "f" + strconv.Itoa(1000 + 10*(i+1))[1:], Data: []byte{byte(i)}})
	}
	return w
}

// plain is a world of the tests' own: texts, and files in a map.
type plain struct {
	files   map[string]string
	in, out string
}

func plainOf(w api.World) plain {
	p := plain{files: map[string]string{}, in: string(w.In), out: string(w.Out)}
	for _, f := range w.Files {
		p.files[f.Name] = string(f.Data)
	}
	return p
}

func (p plain) world() api.World {
	w := world(p.in, p.out)
	for _, name := range slices.Sorted(maps.Keys(p.files)) {
		w.Files = append(w.Files, api.File{Name: name, Data: []byte(p.files[name])})
	}
	return w
}

// with is p in which one file holds data.
func (p plain) with(name, data string) plain {
	p.files = maps.Clone(p.files)
	p.files[name] = data
	return p
}

func (p plain) put(name, data string) (plain, api.Errno) {
	_, there := p.files[name]
	switch {
	case len(name) < 1 || len(name) > longestName:
		return plain{}, api.ErrArg
	case len(data) > mostBytes:
		return plain{}, api.ErrLarge
	case !there && len(p.files) >= mostFiles:
		return plain{}, api.ErrFull
	}
	return p.with(name, data), api.OK
}

func (p plain) write(name string, at int, data string) (plain, api.Errno) {
	old, there := p.files[name]
	switch {
	case !there:
		return plain{}, api.ErrNone
	case at < 0 || at > len(old):
		return plain{}, api.ErrArg
	}
	b := []byte(old)
	for i := range len(data) {
		if at+i == len(b) {
			b = append(b, 0)
		}
		b[at+i] = data[i]
	}
	if len(b) > mostBytes {
		return plain{}, api.ErrLarge
	}
	return p.with(name, string(b)), api.OK
}

func (p plain) delete(name string) (plain, api.Errno) {
	if _, there := p.files[name]; !there {
		return plain{}, api.ErrNone
	}
	p.files = maps.Clone(p.files)
	delete(p.files, name)
	return p, api.OK
}

func (p plain) take(n int) (string, plain, api.Errno) {
	switch {
	case n < 0:
		return "", plain{}, api.ErrArg
	case n > len(p.in):
		return "", plain{}, api.ErrEnd
	}
	head := p.in[:n]
	p.in = p.in[n:]
	return head, p, api.OK
}

func (p plain) say(data string) (plain, api.Errno) {
	p.out += data
	if len(p.out) > mostBytes {
		return plain{}, api.ErrLarge
	}
	return p, api.OK
}

// sameFile, sameWorld: nil and empty lists are the same.
func sameFile(a, b api.File) bool {
	return a.Name == b.Name && bytes.Equal(a.Data, b.Data)
}

func sameWorld(a, b api.World) bool {
	return slices.EqualFunc(a.Files, b.Files, sameFile) && bytes.Equal(a.In, b.In) && bytes.Equal(a.Out, b.Out)
}

// brief is bytes as they are told, with what is long cut off.
func brief(b []byte) string {
	if len(b) <= 30 {
		return strconv.Quote(string(b))
	}
	return strconv.Quote(string(b[:30])) + ".. (" + strconv.Itoa(len(b)) + " bytes)"
}

func told(w api.World) string {
	var s strings.Builder
	for _, f := range w.Files[:min(6, len(w.Files))] {
		s.WriteString(brief([]byte(f.Name)) + ": " + brief(f.Data) + ", ")
	}
	return s.String() + strconv.Itoa(len(w.Files)) + " files, in " + brief(w.In) + ", out " + brief(w.Out)
}

func checkWorld(t *testing.T, what string, got api.World, e api.Errno, want api.World, err api.Errno) {
	t.Helper()
	if e != err || !sameWorld(got, want) {
		t.Errorf("%s: %s; error %d; want %s; error %d", what, told(got), e, told(want), err)
	}
	if e == api.OK && !Sound(got) {
		t.Errorf("%s: the world behind it is not sound", what)
	}
}

func checkBytes(t *testing.T, what string, got []byte, e api.Errno, want []byte, err api.Errno) {
	t.Helper()
	if e != err || !bytes.Equal(got, want) {
		t.Errorf("%s: %s, error %d; want %s, error %d", what, brief(got), e, brief(want), err)
	}
}

// The checks below hold a call against want, and where want is an error, against an empty answer.
func checkGet(t *testing.T, w api.World, name string, want []byte, err api.Errno) {
	t.Helper()
	b, e := Get(w, name)
	checkBytes(t, "Get of "+brief([]byte(name)), b, e, want, err)
}

func checkPut(t *testing.T, w api.World, name string, data []byte, want api.World, err api.Errno) {
	t.Helper()
	x, e := Put(w, name, data)
	checkWorld(t, "Put of "+brief([]byte(name))+" with "+brief(data), x, e, want, err)
}

func checkWrite(t *testing.T, w api.World, name string, at int, data []byte, want api.World, err api.Errno) {
	t.Helper()
	x, e := Write(w, name, at, data)
	checkWorld(t, "Write to "+brief([]byte(name))+" at "+strconv.Itoa(at)+" of "+brief(data), x, e, want, err)
}

func checkDelete(t *testing.T, w api.World, name string, want api.World, err api.Errno) {
	t.Helper()
	x, e := Delete(w, name)
	checkWorld(t, "Delete of "+brief([]byte(name)), x, e, want, err)
}

func checkTake(t *testing.T, w api.World, n int, head []byte, want api.World, err api.Errno) {
	t.Helper()
	b, x, e := Take(w, n)
	checkBytes(t, "Take of "+strconv.Itoa(n), b, e, head, err)
	checkWorld(t, "Take of "+strconv.Itoa(n), x, e, want, err)
}

func checkSay(t *testing.T, w api.World, data []byte, want api.World, err api.Errno) {
	t.Helper()
	x, e := Say(w, data)
	checkWorld(t, "Say of "+brief(data), x, e, want, err)
}
