package world

import (
	"slices"
	"testing"

	"sextant/api"
)

// P7.3: 0, some, all and too many bytes of each short In.
func TestTake(t *testing.T) {
	all := "a\x00b\xff\ncdefg"
	for length := range len(all) + 1 {
		w := world(all[:length], "o", "a", "1", "b", "2")
		for n := range length + 1 {
			checkTake(t, w, n, []byte(all[:n]), world(all[n:length], "o", "a", "1", "b", "2"), api.OK)
		}
		for _, n := range []int{length + 1, length + 2, mostBytes, mostBytes + 1, maxInt - 1, maxInt} {
			checkTake(t, w, n, nil, api.World{}, api.ErrEnd)
		}
		for _, n := range []int{-1, -2, -length - 1, -mostBytes, minInt + 1, minInt} {
			checkTake(t, w, n, nil, api.World{}, api.ErrArg)
		}
	}
}

// P7.3: of an In of MaxBytes bytes.
func TestTakeLong(t *testing.T) {
	full := filled(mostBytes)
	w := world(string(full), "o", "a", "1")
	for _, n := range []int{0, 1, mostBytes / 2, mostBytes - 1, mostBytes} {
		checkTake(t, w, n, full[:n], world(string(full[n:]), "o", "a", "1"), api.OK)
	}
	checkTake(t, w, mostBytes+1, nil, api.World{}, api.ErrEnd)
}

// P7.3: what is taken bit by bit is In, in its order.
func TestTakeAll(t *testing.T) {
	want := filled(1000)
	w := world(string(want), "o", "a", "1")
	var got []byte
	for n := 0; len(w.In) > 0; n++ {
		head, next, e := Take(w, min(n, len(w.In)))
		if e != api.OK {
			t.Fatalf("Take: error %d", e)
		}
		got, w = append(got, head...), next
	}
	checkBytes(t, "all that was taken", got, api.OK, want, api.OK)
	checkTake(t, w, 1, nil, api.World{}, api.ErrEnd)
}

// P7.3: some data and none, behind what has been written already.
func TestSay(t *testing.T) {
	for _, out := range []string{"", "x", "xyz\x00\xff"} {
		for _, data := range []string{"", "a", "\xff\x00ab", "xyz"} {
			w := world("i", out, "a", "1", "b", "2")
			checkSay(t, w, []byte(data), world("i", out+data, "a", "1", "b", "2"), api.OK)
		}
		checkSay(t, world("i", out, "a", "1"), nil, world("i", out, "a", "1"), api.OK)
	}
}

// P7.3: up to MaxBytes bytes and one more, from each length on.
func TestSayLong(t *testing.T) {
	for _, length := range []int{0, 1, 100, mostBytes - 1, mostBytes} {
		out := filled(length)
		w := world("i", string(out), "a", "1")
		room := mostBytes - length
		for _, n := range []int{0, 1, room - 1, room} {
			if n >= 0 && n <= room {
				checkSay(t, w, filled(n), world("i", string(slices.Concat(out, filled(n))), "a", "1"), api.OK)
			}
		}
		for _, n := range []int{room + 1, room + 2, mostBytes + 1, 2 * mostBytes} {
			checkSay(t, w, filled(n), api.World{}, api.ErrLarge)
		}
	}
}
