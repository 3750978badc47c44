package world

import (
	"math/rand"
	"testing"

	"sextant/api"
)

// step is a call as four bytes tell it: which, of which name, with which number, with how many bytes.
type step struct {
	call, name, number, size byte
}

func (s step) nameIn(w api.World) string {
	names := []string{"", "\x00", "a", "ab", "b", "é", "\xff", nameOf(255), nameOf(256)}
	if i := int(s.name) - 128; i >= 0 && len(w.Files) > 0 {
		return w.Files[i%len(w.Files)].Name
	}
	if s.name >= 64 {
		return "f" + string([]byte{s.name})
	}
	return names[int(s.name)%len(names)]
}

// numberFor is near 0, near a length, or at an end.
func (s step) numberFor(length int) int {
	switch {
	case s.number < 100:
		return int(s.number%20) - 3
	case s.number < 200:
		return length + int(s.number%7) - 4
	}
	far := []int{minInt, minInt + 1, -mostBytes, mostBytes - 1, mostBytes, mostBytes + 1, maxInt - 1, maxInt}
	return far[int(s.number)%len(far)]
}

func (s step) data(room int) []byte {
	switch {
	case s.size < 200:
		return filled(int(s.size % 16))
	case s.size < 240:
		return filled(max(0, room+int(s.size%5)-2))
	}
	return filled(mostBytes + int(s.size%3) - 1)
}

// checkStep carries a call out on a world and on the tests' own, and answers the world behind it, which is the one ahead of it where there is an error.
func checkStep(t *testing.T, w api.World, s step) api.World {
	t.Helper()
	p := plainOf(w)
	name := s.nameIn(w)
	old, there := p.files[name]
	var got api.World
	var q plain
	var e api.Errno
	switch s.call % 6 {
	case 0:
		e = api.ErrNone
		if there {
			e = api.OK
		}
		checkGet(t, w, name, []byte(old), e)
		got = w
	case 1:
		data := s.data(mostBytes)
		q, e = p.put(name, string(data))
		checkPut(t, w, name, data, q.world(), e)
		got, _ = Put(w, name, data)
	case 2:
		at := s.numberFor(len(old))
		data := s.data(mostBytes - len(old))
		q, e = p.write(name, at, string(data))
		checkWrite(t, w, name, at, data, q.world(), e)
		got, _ = Write(w, name, at, data)
	case 3:
		q, e = p.delete(name)
		checkDelete(t, w, name, q.world(), e)
		got, _ = Delete(w, name)
	case 4:
		n := s.numberFor(len(p.in))
		var head string
		head, q, e = p.take(n)
		checkTake(t, w, n, []byte(head), q.world(), e)
		_, got, _ = Take(w, n)
	case 5:
		data := s.data(mostBytes - len(p.out))
		q, e = p.say(string(data))
		checkSay(t, w, data, q.world(), e)
		got, _ = Say(w, data)
	}
	if !sameWorld(w, p.world()) {
		t.Fatalf("%v: the world ahead of the call is changed", s)
	}
	if e != api.OK {
		return w
	}
	return got
}

func walk(t *testing.T, w api.World, steps []byte) {
	t.Helper()
	for len(steps) >= 4 && !t.Failed() {
		w = checkStep(t, w, step{steps[0], steps[1], steps[2], steps[3]})
		steps = steps[4:]
	}
}

// P7.1, P7.2, P7.3, P10: many calls in a row answer what the tests' own world does, and change nothing else.
func TestWalk(t *testing.T) {
	r := rand.New(rand.NewSource(7))
	for i := range 60 {
		steps := make([]byte, 4*200)
		r.Read(steps)
		walk(t, world(string(filled(r.Intn(100))), "", "a", "1"), steps)
		walk(t, numbered(55+i%10), steps[:4*60])
	}
}

func FuzzSteps(f *testing.F) {
	f.Add([]byte{1, 2, 0, 9, 2, 2, 3, 240, 4, 0, 5, 0, 5, 0, 0, 220, 3, 2, 0, 0})
	f.Fuzz(func(t *testing.T, steps []byte) {
		steps = steps[:min(len(steps), 4*100)]
		walk(t, world("abcdef", "x", "a", "1"), steps)
		walk(t, numbered(mostFiles-1), steps)
	})
}
