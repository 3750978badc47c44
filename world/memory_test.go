package world

import (
	"bytes"
	"slices"
	"strconv"
	"strings"
	"testing"
	"unsafe"

	"sextant/api"
)

// answer is what a call answers, of whichever kind.
type answer struct {
	bytes []byte
	world api.World
	e     api.Errno
}

// calls are all that this package has but Sound, where they answer something and where they answer errors.
func calls() map[string]func(w api.World, data []byte) answer {
	out := map[string]func(w api.World, data []byte) answer{}
	for _, name := range []string{"", "a", "b", "bb", "c", "d", "e"} {
		out["Get of "+name] = func(w api.World, data []byte) answer {
			b, e := Get(w, name)
			return answer{bytes: b, e: e}
		}
		out["Put of "+name] = func(w api.World, data []byte) answer {
			x, e := Put(w, name, data)
			return answer{world: x, e: e}
		}
		out["Delete of "+name] = func(w api.World, data []byte) answer {
			x, e := Delete(w, name)
			return answer{world: x, e: e}
		}
		for _, at := range []int{-1, 0, 1, 5, 10, 11} {
			out["Write to "+name+" at "+strconv.Itoa(at)] = func(w api.World, data []byte) answer {
				x, e := Write(w, name, at, data)
				return answer{world: x, e: e}
			}
		}
	}
	for _, n := range []int{-1, 0, 1, 5, 10, 11} {
		out["Take of "+strconv.Itoa(n)] = func(w api.World, data []byte) answer {
			b, x, e := Take(w, n)
			return answer{b, x, e}
		}
	}
	out["Say"] = func(w api.World, data []byte) answer {
		x, e := Say(w, data)
		return answer{world: x, e: e}
	}
	return out
}

// roomy has spare room behind it that must stay as it is.
func roomy(s string) []byte {
	return append([]byte(s), bytes.Repeat([]byte{0xAB}, 40)...)[:len(s)]
}

// roomyWorld has spare room behind each of its lists.
func roomyWorld() api.World {
	w := api.World{In: roomy("inininin\n."), Out: roomy("out")}
	for _, f := range [][2]string{{"a", "0123456789"}, {"b", ""}, {"c", "x"}, {"d", "pqr"}, {"spare", "spare"}, {"room", "room"}} {
		w.Files = append(w.Files, api.File{Name: f[0], Data: roomy(f[1])})
	}
	w.Files = w.Files[:4]
	return w
}

// byteLists are all lists of bytes that can be reached, spare room included.
func byteLists(a answer) [][]byte {
	out := [][]byte{a.bytes[:cap(a.bytes)], a.world.In[:cap(a.world.In)], a.world.Out[:cap(a.world.Out)]}
	for _, f := range a.world.Files[:cap(a.world.Files)] {
		out = append(out, f.Data[:cap(f.Data)])
	}
	return out
}

// snapshot is all that can be reached as one text.
func snapshot(a answer) string {
	var s strings.Builder
	for _, b := range byteLists(a) {
		s.WriteString(strconv.Quote(string(b)) + " ")
	}
	for _, f := range a.world.Files[:cap(a.world.Files)] {
		s.WriteString(strconv.Quote(f.Name) + strconv.Itoa(len(f.Data)) + " ")
	}
	return s.String() + strconv.Itoa(len(a.world.Files)) + " " + strconv.Itoa(len(a.world.In)) + " " + strconv.Itoa(len(a.world.Out))
}

// spoil writes over all of an answer; each list must be as it was till its turn comes.
func spoil(t *testing.T, name string, a answer) {
	t.Helper()
	lists := byteLists(a)
	var kept [][]byte
	for _, b := range lists {
		kept = append(kept, slices.Clone(b))
	}
	for i, b := range lists {
		if !bytes.Equal(b, kept[i]) {
			t.Fatalf("%s: list %d shares memory with one before it", name, i)
		}
		for k := range b {
			b[k] ^= 0x55
		}
	}
	files := a.world.Files[:cap(a.world.Files)]
	for i := range files {
		files[i] = api.File{Name: "spoilt"}
	}
}

// givens are worlds with data that are of their own, of the world's files or of its streams.
func givens() map[string]func() (api.World, []byte) {
	return map[string]func() (api.World, []byte){
		"own":          func() (api.World, []byte) { return roomyWorld(), roomy("some data") },
		"none":         func() (api.World, []byte) { return roomyWorld(), roomy("") },
		"too long":     func() (api.World, []byte) { return roomyWorld(), filled(mostBytes + 1) },
		"of a file":    func() (api.World, []byte) { w := roomyWorld(); return w, w.Files[0].Data[2:8] },
		"of in":        func() (api.World, []byte) { w := roomyWorld(); return w, w.In },
		"of out":       func() (api.World, []byte) { w := roomyWorld(); return w, w.Out },
		"of no world":  func() (api.World, []byte) { w := roomyWorld(); w.Files[0].Name = "z"; return w, roomy("x") },
		"of nothing":   func() (api.World, []byte) { return api.World{}, nil },
		"all the same": sameEverywhere,
	}
}

// sameEverywhere is a world all of whose lists share their memory.
func sameEverywhere() (api.World, []byte) {
	b := roomy("0123456789")
	return api.World{Files: []api.File{{Name: "a", Data: b}, {Name: "b", Data: b[1:4]}, {Name: "c", Data: b[:3]}, {Name: "d", Data: b}}, In: b, Out: b}, b
}

// R4: nothing that is handed in is changed, spare room included, and no answer shares memory with it, with another answer or with another list.
func TestMemory(t *testing.T) {
	for name, call := range calls() {
		for what, given := range givens() {
			w, data := given()
			in := answer{world: w, bytes: data}
			kept := snapshot(in)
			first, second := call(w, data), call(w, data)
			if snapshot(in) != kept {
				t.Fatalf("%s, data %s: what was handed in is changed", name, what)
			}
			was := snapshot(second)
			spoil(t, name, first)
			if snapshot(in) != kept {
				t.Fatalf("%s, data %s: the answer shares memory with what was handed in", name, what)
			}
			if snapshot(second) != was {
				t.Fatalf("%s, data %s: two answers share memory", name, what)
			}
		}
	}
}

// R4: the names of an answer are new memory too.
func TestMemoryOfNames(t *testing.T) {
	text := "a piece of a long text"
	name := text[:7]
	w := world("", "", name, "1", "b", "2")
	first, _ := Put(w, name, nil)
	second, _ := Put(w, "b", nil)
	for _, x := range []api.World{first, second} {
		if unsafe.StringData(x.Files[0].Name) == unsafe.StringData(name) {
			t.Errorf("the name %q is shared", x.Files[0].Name)
		}
	}
}

// R5: what one call was given is nothing to the next.
func TestAgain(t *testing.T) {
	for name, call := range calls() {
		first := call(roomyWorld(), []byte("data"))
		for _, other := range calls() {
			other(world("other", "world", "b", "9"), []byte("other"))
		}
		again := call(roomyWorld(), []byte("data"))
		if again.e != first.e || !bytes.Equal(again.bytes, first.bytes) || !sameWorld(again.world, first.world) {
			t.Errorf("%s differs the second time", name)
		}
	}
}

// R3: beside an error there is nothing; every other world that is answered is sound.
func TestBesideErrors(t *testing.T) {
	for name, call := range calls() {
		for what, given := range givens() {
			a := call(given())
			if a.e != api.OK && (len(a.bytes) > 0 || !sameWorld(a.world, api.World{})) {
				t.Errorf("%s, data %s: %s beside error %d", name, what, told(a.world), a.e)
			}
			if a.e == api.OK && !strings.HasPrefix(name, "Get") && !Sound(a.world) {
				t.Errorf("%s, data %s: %s is not sound", name, what, told(a.world))
			}
		}
	}
}
