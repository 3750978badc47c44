package world

import (
	"slices"
	"strings"
	"testing"

	"sextant/api"
)

// The chapter's examples.
func TestExamples(t *testing.T) {
	w, e := Put(api.World{}, "b", []byte("pqr"))
	checkWorld(t, "Put of b", w, e, world("", "", "b", "pqr"), api.OK)
	w, e = Put(w, "a", []byte("pqr"))
	checkWorld(t, "Put of a", w, e, world("", "", "a", "pqr", "b", "pqr"), api.OK)
	w, e = Write(w, "a", 1, []byte("xy"))
	checkWorld(t, "Write", w, e, world("", "", "a", "pxy", "b", "pqr"), api.OK)
	checkGet(t, w, "a", []byte("pxy"), api.OK)
	for _, data := range []string{"", "x", "xy"} {
		checkWrite(t, w, "a", 4, []byte(data), api.World{}, api.ErrArg)
	}
	checkTake(t, world("abc", ""), 2, []byte("ab"), world("c", ""), api.OK)
	checkTake(t, world("abc", ""), 4, nil, api.World{}, api.ErrEnd)
}

// soundWorlds are at their limits and well within.
func soundWorlds() map[string]api.World {
	full := string(filled(mostBytes))
	greatest := api.World{In: filled(mostBytes), Out: filled(mostBytes)}
	for i := range mostFiles {
		name := string(rune('0'+i)) + nameOf(longestName-1)
		greatest.Files = append(greatest.Files, api.File{Name: name, Data: filled(mostBytes)})
	}
	return map[string]api.World{
		"nothing":                    {},
		"empty lists":                {Files: []api.File{}, In: []byte{}, Out: []byte{}},
		"streams alone":              world("a", "b"),
		"an empty file":              world("", "", "a", ""),
		"names of 1 and 255":         world("", "", "a", "", nameOf(longestName), ""),
		"names of 255, last byte":    world("", "", nameOf(254)+"a", "", nameOf(254)+"b", ""),
		"full files":                 world("", "", "a", full, "b", full),
		"full in":                    world(full, ""),
		"full out":                   world("", full),
		"one begins the other":       world("", "", "a", "", "ab", "", "abc", "", "b", ""),
		"a byte 0 behind":            world("", "", "a", "", "a\x00", "", "a\x00\x00", "", "a\x01", "", "aa", ""),
		"bytes of every size":        world("", "", "\x00", "", "\x7f", "", "\x80", "", "\xff", ""),
		"capitals ahead of smalls":   world("", "", "Z", "", "a", ""),
		"characters above 127":       world("", "", "z", "", "é", "", "中", "", "\U0010ffff", "", "\xff", ""),
		"bytes of no character":      world("", "", "\xfe", "", "\xff", "", "\xff\xfe", "", "\xff\xff", ""),
		"digits as bytes":            world("", "", "10", "", "9", ""),
		"64 files":                   numbered(mostFiles),
		"63 files":                   numbered(mostFiles - 1),
		"everything at its greatest": greatest,
	}
}

// unsoundWorlds have one single fault each.
func unsoundWorlds() map[string]api.World {
	long := string(filled(mostBytes + 1))
	lastLong := numbered(mostFiles)
	lastLong.Files[mostFiles-1].Data = filled(mostBytes + 1)
	lastTurned := numbered(mostFiles)
	slices.Reverse(lastTurned.Files[mostFiles-2:])
	lastTwice := numbered(mostFiles)
	lastTwice.Files[mostFiles-1].Name = lastTwice.Files[mostFiles-2].Name
	return map[string]api.World{
		"a file too many":               numbered(mostFiles + 1),
		"many files too many":           numbered(99),
		"a name of no byte":             world("", "", "", "x"),
		"no byte, ahead of others":      world("", "", "", "x", "a", "y"),
		"a name of 256":                 world("", "", nameOf(256), "x"),
		"a name of 256, last":           world("", "", "a", "", "b", "", nameOf(256), ""),
		"a name of 256, of characters":  world("", "", strings.Repeat("é", 128), ""),
		"a name of many":                world("", "", nameOf(100000), ""),
		"data too long":                 world("", "", "a", long),
		"data too long, last":           lastLong,
		"names that fall":               world("", "", "b", "1", "a", "2"),
		"names that fall, last":         lastTurned,
		"names that fall in the middle": world("", "", "a", "", "c", "", "b", "", "d", ""),
		"the third name below":          world("", "", "b", "", "c", "", "a", ""),
		"capitals behind smalls":        world("", "", "a", "", "Z", ""),
		"digits by their number":        world("", "", "9", "", "10", ""),
		"a name twice":                  world("", "", "a", "1", "a", "2"),
		"a name twice, same data":       world("", "", "a", "1", "a", "1"),
		"a name twice, last":            lastTwice,
		"a long name twice":             world("", "", nameOf(longestName), "", nameOf(longestName), ""),
		"one begins the other":          world("", "", "ab", "", "a", ""),
		"a byte 0 ahead":                world("", "", "a\x00", "", "a", ""),
		"longer ahead of shorter":       world("", "", nameOf(255), "", nameOf(254), ""),
		"a byte above 127 ahead":        world("", "", "\x80", "", "\x7f", ""),
		"255 ahead of 0":                world("", "", "\xff", "", "\x00", ""),
		"a character above 127 ahead":   world("", "", "é", "", "z", ""),
		"a bad byte as a character":     world("", "", "\xff", "", "\U0010ffff", ""),
		"bad bytes that fall":           world("", "", "\xff", "", "\xfe", ""),
		"a bad byte twice":              world("", "", "\xff", "", "\xff", ""),
		"in too long":                   world(long, ""),
		"in too long, with files":       world(long, "", "a", "1"),
		"out too long":                  world("", long),
		"out too long, with files":      world("", long, "a", "1"),
	}
}

// P7.1: worlds with each single fault, and worlds just short of it.
func TestSound(t *testing.T) {
	for name, w := range soundWorlds() {
		if !Sound(w) {
			t.Errorf("%s: not sound", name)
		}
	}
	for name, w := range unsoundWorlds() {
		if Sound(w) {
			t.Errorf("%s: sound", name)
		}
	}
}

// P7.1: two names of up to three bytes are in order as their bytes are.
func TestSoundOrder(t *testing.T) {
	var names []string
	letters := []string{"", "\x00", "a", "\x7f", "\x80", "\xff"}
	for _, a := range letters[1:] {
		for _, b := range letters {
			for _, c := range letters {
				names = append(names, a+b+c)
			}
		}
	}
	for _, a := range names {
		for _, b := range names {
			want := slices.Compare([]byte(a), []byte(b)) < 0
			if got := Sound(world("", "", a, "", b, "")); got != want {
				t.Errorf("%q ahead of %q: %v", a, b, got)
			}
		}
	}
}

// P7.1, P7.2, P7.3: a world that is not sound is told ahead of everything else.
func TestUnsound(t *testing.T) {
	names := []string{"a", "b", "zz", "", nameOf(255), nameOf(256), "f010", "\xff"}
	data := [][]byte{nil, []byte("x"), filled(mostBytes), filled(mostBytes + 1)}
	numbers := []int{0, 1, -1, mostBytes + 2, minInt, maxInt}
	for what, w := range unsoundWorlds() {
		t.Run(what, func(t *testing.T) {
			for _, name := range names {
				checkGet(t, w, name, nil, api.ErrForm)
				checkDelete(t, w, name, api.World{}, api.ErrForm)
				for _, d := range data {
					checkPut(t, w, name, d, api.World{}, api.ErrForm)
					for _, n := range numbers {
						checkWrite(t, w, name, n, d, api.World{}, api.ErrForm)
					}
				}
			}
			for _, n := range numbers {
				checkTake(t, w, n, nil, api.World{}, api.ErrForm)
			}
			for _, d := range data {
				checkSay(t, w, d, api.World{}, api.ErrForm)
			}
		})
	}
}

// P7.1, P7.2, P7.3: a world with nothing in it.
func TestNothing(t *testing.T) {
	for _, w := range []api.World{{}, {Files: []api.File{}, In: []byte{}, Out: []byte{}}} {
		for _, name := range []string{"a", "", nameOf(256)} {
			checkGet(t, w, name, nil, api.ErrNone)
			checkDelete(t, w, name, api.World{}, api.ErrNone)
			checkWrite(t, w, name, 0, nil, api.World{}, api.ErrNone)
		}
		checkPut(t, w, "a", nil, world("", "", "a", ""), api.OK)
		checkPut(t, w, "a", []byte("x"), world("", "", "a", "x"), api.OK)
		checkPut(t, w, "", nil, api.World{}, api.ErrArg)
		checkTake(t, w, 0, nil, api.World{}, api.OK)
		checkTake(t, w, 1, nil, api.World{}, api.ErrEnd)
		checkTake(t, w, -1, nil, api.World{}, api.ErrArg)
		checkSay(t, w, nil, api.World{}, api.OK)
		checkSay(t, w, []byte("x"), world("", "x"), api.OK)
	}
}
