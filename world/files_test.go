package world

import (
	"bytes"
	"slices"
	"strings"
	"testing"

	"sextant/api"
)

// P7.1: each file of each world, and names next to those that are there.
func TestGet(t *testing.T) {
	for _, w := range soundWorlds() {
		names := map[string]bool{}
		for _, f := range w.Files {
			names[f.Name] = true
			checkGet(t, w, f.Name, f.Data, api.OK)
		}
		for name := range names {
			for _, other := range []string{name + "\x00", name + "a", name[:len(name)-1], strings.ToUpper(name), "a" + name} {
				if !names[other] {
					checkGet(t, w, other, nil, api.ErrNone)
				}
			}
		}
		for _, name := range []string{"", nameOf(256), nameOf(100000), "no such file", "\xff\xff\xff"} {
			checkGet(t, w, name, nil, api.ErrNone)
		}
	}
}

// P7.1: ahead of, between and behind the files that are there, and over each of them; the others and the streams stay.
func TestPut(t *testing.T) {
	for _, count := range []int{1, 2, 3, 7, mostFiles - 1, mostFiles} {
		w := numbered(count)
		for _, f := range w.Files {
			for _, name := range []string{f.Name, f.Name + "\x00", f.Name[:len(f.Name)-1], f.Name[:3] + "\xff", "a" + f.Name, "z" + f.Name, "\xff" + f.Name} {
				for _, data := range [][]byte{nil, {}, {0}, []byte("data")} {
					want, err := plainOf(w).put(name, string(data))
					checkPut(t, w, name, data, want.world(), err)
				}
			}
		}
	}
	w := world("i", "o", "b", "1", "d", "2")
	checkPut(t, w, "a", []byte("x"), world("i", "o", "a", "x", "b", "1", "d", "2"), api.OK)
	checkPut(t, w, "c", []byte("x"), world("i", "o", "b", "1", "c", "x", "d", "2"), api.OK)
	checkPut(t, w, "e", []byte("x"), world("i", "o", "b", "1", "d", "2", "e", "x"), api.OK)
	checkPut(t, w, "b", []byte("xyz"), world("i", "o", "b", "xyz", "d", "2"), api.OK)
	checkPut(t, w, "d", nil, world("i", "o", "b", "1", "d", ""), api.OK)
	checkPut(t, w, "\x80", []byte("x"), world("i", "o", "b", "1", "d", "2", "\x80", "x"), api.OK)
	checkPut(t, w, "bb", []byte("x"), world("i", "o", "b", "1", "bb", "x", "d", "2"), api.OK)
}

// P7.1: names of 0, 1, 255 and 256 bytes; their length is in bytes, whatever characters they are.
func TestPutNames(t *testing.T) {
	w := world("i", "o", "b", "1")
	for _, name := range []string{"\x00", "a", "z", nameOf(2), nameOf(254), nameOf(255), strings.Repeat("é", 127), strings.Repeat("é", 127) + "x", strings.Repeat("\xff", 255)} {
		want, _ := plainOf(w).put(name, "x")
		checkPut(t, w, name, []byte("x"), want.world(), api.OK)
	}
	for _, name := range []string{"", nameOf(256), nameOf(257), nameOf(100000), strings.Repeat("é", 128), strings.Repeat("\xff", 256)} {
		checkPut(t, w, name, []byte("x"), api.World{}, api.ErrArg)
		checkPut(t, w, name, nil, api.World{}, api.ErrArg)
	}
}

// P7.1: MaxBytes bytes and one more, under a new name and under one that is there.
func TestPutLong(t *testing.T) {
	w := world("i", "o", "b", "1")
	full := filled(mostBytes + 1)
	for _, name := range []string{"a", "b", "c"} {
		for _, n := range []int{mostBytes - 1, mostBytes} {
			checkPut(t, w, name, full[:n], plainOf(w).with(name, string(full[:n])).world(), api.OK)
		}
		checkPut(t, w, name, full, api.World{}, api.ErrLarge)
		checkPut(t, w, name, filled(2*mostBytes), api.World{}, api.ErrLarge)
	}
}

// P7.1: a world with MaxFiles files takes none under a new name, and all under those that are there.
func TestPutFull(t *testing.T) {
	w := numbered(mostFiles)
	for i, f := range w.Files {
		for _, name := range []string{"a" + f.Name, f.Name + "x", "z"} {
			checkPut(t, w, name, []byte("x"), api.World{}, api.ErrFull)
			checkPut(t, w, name, nil, api.World{}, api.ErrFull)
		}
		want := numbered(mostFiles)
		want.Files[i].Data = []byte("new")
		checkPut(t, w, f.Name, []byte("new"), want, api.OK)
	}
	last := numbered(mostFiles)
	last.Files = last.Files[:mostFiles-1]
	checkPut(t, last, w.Files[mostFiles-1].Name, w.Files[mostFiles-1].Data, w, api.OK)
}

// P7.1: the name is told ahead of the length, and the length ahead of the room.
func TestPutFirstError(t *testing.T) {
	long := filled(mostBytes + 1)
	for _, count := range []int{0, 1, mostFiles} {
		w := numbered(count)
		for _, name := range []string{"", nameOf(256)} {
			for _, data := range [][]byte{nil, []byte("x"), long} {
				checkPut(t, w, name, data, api.World{}, api.ErrArg)
			}
		}
		for _, name := range []string{"a", "f010", "f640", "z", nameOf(255)} {
			checkPut(t, w, name, long, api.World{}, api.ErrLarge)
		}
	}
}

// P7.2: each place of a short file, with data within it, up to its end and beyond.
func TestWrite(t *testing.T) {
	old := "0123456789"
	for length := range len(old) + 1 {
		for _, w := range []api.World{
			world("i", "o", "f", old[:length]),
			world("i", "o", "a", "1", "f", old[:length], "g", "2"),
			world("i", "o", "e", "1", "ee", "2", "f", old[:length]),
			world("i", "o", "f", old[:length], "f\x00", "2"),
		} {
			for at := -2; at <= length+2; at++ {
				for n := range 14 {
					data := "abcdefghijklmn"[:n]
					want, err := plainOf(w).write("f", at, data)
					checkWrite(t, w, "f", at, []byte(data), want.world(), err)
				}
			}
		}
	}
}

// P7.2: some places, written out.
func TestWritePlaces(t *testing.T) {
	w := world("i", "o", "a", "pqr", "b", "")
	for _, c := range []struct {
		at         int
		data, want string
		e          api.Errno
	}{
		{0, "x", "xqr", 0}, {1, "x", "pxr", 0}, {2, "x", "pqx", 0}, {3, "x", "pqrx", 0}, {4, "x", "", api.ErrArg}, {-1, "x", "", api.ErrArg},
		{0, "xyz", "xyz", 0}, {0, "wxyz", "wxyz", 0}, {1, "xyz", "pxyz", 0}, {2, "xyz", "pqxyz", 0}, {3, "xyz", "pqrxyz", 0},
		{0, "", "pqr", 0}, {1, "", "pqr", 0}, {3, "", "pqr", 0}, {4, "", "", api.ErrArg}, {-1, "", "", api.ErrArg},
		{minInt, "x", "", api.ErrArg}, {maxInt, "x", "", api.ErrArg}, {minInt, "", "", api.ErrArg}, {maxInt, "", "", api.ErrArg},
	} {
		want := world("i", "o", "a", c.want, "b", "")
		if c.e != 0 {
			want = api.World{}
		}
		checkWrite(t, w, "a", c.at, []byte(c.data), want, c.e)
	}
	checkWrite(t, w, "a", 2, nil, w, api.OK)
	checkWrite(t, w, "b", 0, nil, w, api.OK)
	checkWrite(t, w, "b", 0, []byte("new"), world("i", "o", "a", "pqr", "b", "new"), api.OK)
	checkWrite(t, w, "b", 1, nil, api.World{}, api.ErrArg)
	checkWrite(t, w, "b", -1, nil, api.World{}, api.ErrArg)
}

// P7.2: up to MaxBytes bytes and one more, in files of each length around it.
func TestWriteLong(t *testing.T) {
	for _, length := range []int{0, 1, 5, mostBytes - 1, mostBytes} {
		old := filled(length)
		w := world("i", "o", "a", string(old), "b", "2")
		for _, at := range []int{0, 1, 4, length - 1, length, length + 1} {
			if at < 0 || at > length {
				checkWrite(t, w, "a", at, filled(mostBytes+1), api.World{}, api.ErrArg)
				continue
			}
			for _, end := range []int{at, mostBytes - 1, mostBytes} {
				data := bytes.Repeat([]byte{0xEE}, max(0, end-at))
				want := slices.Concat(old[:at], data)
				if len(want) < length {
					want = append(want, old[len(want):]...)
				}
				checkWrite(t, w, "a", at, data, world("i", "o", "a", string(want), "b", "2"), api.OK)
			}
			for _, over := range []int{1, 2, mostBytes} {
				checkWrite(t, w, "a", at, filled(mostBytes-at+over), api.World{}, api.ErrLarge)
			}
		}
	}
}

// P7.2: a file that is not there is told ahead of a wrong place, and a wrong place ahead of the length.
func TestWriteFirstError(t *testing.T) {
	long := filled(mostBytes + 1)
	for _, w := range []api.World{{}, world("i", "o", "b", "pqr"), numbered(mostFiles)} {
		for _, name := range []string{"a", "bb", "c", "", nameOf(255), nameOf(256), "f0101", "\xff"} {
			for _, at := range []int{0, 1, -1, 4, minInt, maxInt} {
				for _, data := range [][]byte{nil, []byte("x"), long} {
					checkWrite(t, w, name, at, data, api.World{}, api.ErrNone)
				}
			}
		}
	}
	w := world("i", "o", "b", "pqr")
	for _, at := range []int{-1, 4, 5, mostBytes, mostBytes + 1, minInt, minInt + 1, maxInt - 1, maxInt} {
		checkWrite(t, w, "b", at, long, api.World{}, api.ErrArg)
	}
	for at := range 4 {
		checkWrite(t, w, "b", at, long, api.World{}, api.ErrLarge)
	}
}

// P7.2: each file of some worlds, and names that are not there.
func TestDelete(t *testing.T) {
	for _, count := range []int{1, 2, 3, 7, mostFiles} {
		w := numbered(count)
		for i, f := range w.Files {
			want := numbered(count)
			want.Files = slices.Concat(want.Files[:i], want.Files[i+1:])
			checkDelete(t, w, f.Name, want, api.OK)
			for _, name := range []string{"", f.Name + "\x00", f.Name[:3], "a", "\xff", nameOf(255), nameOf(256)} {
				checkDelete(t, w, name, api.World{}, api.ErrNone)
			}
		}
	}
	w := world("i", "o", "a", "1", "ab", "2", "b", "3")
	checkDelete(t, w, "a", world("i", "o", "ab", "2", "b", "3"), api.OK)
	checkDelete(t, w, "ab", world("i", "o", "a", "1", "b", "3"), api.OK)
	checkDelete(t, w, "b", world("i", "o", "a", "1", "ab", "2"), api.OK)
	checkDelete(t, world("i", "o", "a", ""), "a", world("i", "o"), api.OK)
	checkDelete(t, w, "c", api.World{}, api.ErrNone)
}

// P7.1, P7.2: what is deleted is gone and leaves room for another.
func TestRoomBehindDelete(t *testing.T) {
	w := numbered(mostFiles)
	checkPut(t, w, "new", nil, api.World{}, api.ErrFull)
	w, e := Delete(w, "f300")
	if e != api.OK {
		t.Fatalf("Delete: error %d", e)
	}
	checkGet(t, w, "f300", nil, api.ErrNone)
	checkDelete(t, w, "f300", api.World{}, api.ErrNone)
	checkPut(t, w, "new", []byte("x"), plainOf(w).with("new", "x").world(), api.OK)
}
