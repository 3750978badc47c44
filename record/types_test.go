package record

import (
	"slices"
	"strconv"
	"strings"
	"testing"

	"sextant/api"
)

// The chapter's example.
func TestExample(t *testing.T) {
	x := storeOf(t)
	x.typ(rtd("point", -1, "x", "y"), 0)
	x.typ(rtd("dot", 0, "c!"), 1)
	x.fields(1, 3)
	x.make(1, 0, read("1 2 red")...)
	x.is(0, 0, true)
	x.get(0, 1, 0, sym("red"))
	x.get(0, 0, 1, read("2")[0])
	x.noSet(0, 0, 0, read("5")[0], api.ErrTwice)
	x.set(0, 1, 0, sym("blue"))
}

// P15.1: types are numbered from 0 on, also those that are alike, and errors take no number.
func TestTypeNumbers(t *testing.T) {
	x := storeOf(t)
	for n := range 40 {
		x.typ(rtd("a", -1, "x!", "y"), n)
		x.noType(rtd("a", -1, "x", "x"), api.ErrArg)
		x.make(0, n, numbers(0, 2)...)
	}
}

// P15.1: how many fields a type may have, by itself and with its parents'.
func TestHowManyFields(t *testing.T) {
	for _, parents := range [][]int{{}, {0}, {1}, {5}, {15}, {16}, {0, 0}, {7, 8}, {8, 8}, {0, 16, 0}, {1, 0, 2, 3}, {4, 4, 4, 4}} {
		x, sum := storeOf(t), 0
		for n, own := range parents {
			sum += own
			x.typ(rtd("parent", n-1, named("p"+strconv.Itoa(n)+"-", own)...), n)
			x.fields(n, sum)
		}
		parent, next := len(parents)-1, len(parents)
		for own := range mostFields + 3 {
			child := rtd("child", parent, named("c", own)...)
			if sum+own > mostFields {
				x.stays("a type of too many fields", func() { x.noType(child, api.ErrLarge) })
				continue
			}
			x.typ(child, next)
			x.fields(next, sum+own)
			next++
		}
	}
}

// P15.1: very many fields are too many, whether or not there are parents.
func TestVeryManyFields(t *testing.T) {
	x := storeOf(t, rtd("a", -1, "x"))
	for _, count := range []int{17, 32, 63, 64, 65, 100, 256, 65536 + 3} {
		many := rtd("many", -1, named("f", count)...)
		x.noType(many, api.ErrLarge)
		many.Parent = 0
		x.noType(many, api.ErrLarge)
		many.Fields[count-1] = "f0"
		x.noType(many, api.ErrArg)
	}
	x.noRtd(1, api.ErrNone)
}

// P15.1: Mutable is as long as Fields.
func TestMutableLength(t *testing.T) {
	x := storeOf(t)
	next := 0
	for fields := range mostFields + 1 {
		for mutable := range mostFields + 3 {
			one := rtd("a", -1, named("f", fields)...)
			one.Mutable = make([]bool, mutable)
			if mutable != fields {
				x.noType(one, api.ErrArg)
				continue
			}
			x.typ(one, next)
			next++
		}
	}
}

// P15.1: two of its own fields of one name, at each two places.
func TestFieldTwice(t *testing.T) {
	x := storeOf(t, rtd("a", -1))
	for count := 2; count <= mostFields; count++ {
		for second := range count {
			for first := range second {
				one := rtd("b", first%2-1, named("f", count)...)
				one.Fields[second] = one.Fields[first]
				x.noType(one, api.ErrArg)
			}
		}
	}
	for _, fields := range []string{"x x", "x y x", "x x x", "y x x", " ", "x  ", "é é", "\xff a \xff"} {
		x.noType(rtd("b", -1, strings.Split(fields, " ")...), api.ErrArg)
	}
	x.noRtd(1, api.ErrNone)
}

// P15.1: names that differ, however little.
func TestNamesThatDiffer(t *testing.T) {
	x := storeOf(t)
	for n, fields := range []string{"x X", "x xx", " x", "x ", "é e\u0301", "\xff \xfe", "a b ab ba aa bb", "\xff \ufffd"} {
		x.typ(rtd("a", -1, strings.Split(fields, " ")...), n)
	}
}

// P15.1: a field may have the name of a parent's: both are there.
func TestParentsName(t *testing.T) {
	x := storeOf(t, rtd("a", -1, "x!", "y"), rtd("b", 0, "y!", "x"), rtd("c", 1, "x!", "y"))
	x.fields(2, 6)
	x.make(2, 0, numbers(10, 6)...)
	for number := range 3 {
		x.get(0, number, 0, numbers(10+2*number, 1)[0])
		x.get(0, number, 1, numbers(11+2*number, 1)[0])
	}
	x.set(0, 1, 0, sym("new"))
	x.get(0, 0, 1, numbers(11, 1)[0])
	x.get(0, 2, 1, numbers(15, 1)[0])
}

// P15.1: Parent is -1 or a type.
func TestParent(t *testing.T) {
	for count := range 4 {
		x := storeOf(t, slices.Repeat([]api.Rtd{rtd("a", -1, "x")}, count)...)
		for _, parent := range []int{count, count + 1, mostTypes, -2, -3, minInt, minInt + 1, maxInt, 1 << 32, -1 << 32, 1<<32 - 1} {
			x.stays("a parent that is none", func() { x.noType(rtd("b", parent), api.ErrArg) })
		}
		for parent := -1; parent < count; parent++ {
			x.typ(rtd("b", parent, "y"), count+1+parent)
			x.fields(count+1+parent, 1+min(1, 1+parent))
		}
	}
}

// P15.1: a sealed type has no children; what else stands beside it may have.
func TestSealed(t *testing.T) {
	x := storeOf(t, sealed(rtd("a", -1, "x")), rtd("b", -1), sealed(rtd("c", 1)), sealed(opaque(rtd("d", -1))), opaque(rtd("e", -1)))
	for _, parent := range []int{0, 2, 3} {
		for _, child := range []api.Rtd{rtd("f", parent), rtd("f", parent, "x"), sealed(rtd("f", parent)), opaque(rtd("f", parent)), withUid("f", rtd("f", parent))} {
			x.stays("a child of a sealed type", func() { x.noType(child, api.ErrType) })
		}
	}
	x.typ(rtd("f", 1), 5)
	x.typ(rtd("f", 4), 6)
	x.typ(rtd("f", 5), 7)
	x.make(2, 0)
	x.make(0, 1, sym("a"))
}

// P15.1, R2: of all errors that could be answered, the first one is: a type is at fault in any of six ways at once.
func TestWhichTypeError(t *testing.T) {
	const length, twice, parent, known, closed, large = 1, 2, 4, 8, 16, 32
	x := storeOf(t, rtd("a", -1, "x"), sealed(rtd("b", -1, "x")), withUid("u", rtd("c", -1, "x")))
	for faults := range 64 {
		given, want := rtd("d", 0, "p", "q"), api.OK
		if faults&large != 0 {
			given, want = rtd("d", 0, named("f", mostFields)...), api.ErrLarge
		}
		if faults&closed != 0 {
			given.Parent, want = 1, api.ErrType
		}
		if faults&known != 0 {
			given.Uid, want = "u", api.ErrTwice
		}
		if faults&parent != 0 {
			given.Parent, want = 1000, api.ErrArg
		}
		if faults&twice != 0 {
			given.Fields[1], want = given.Fields[0], api.ErrArg
		}
		if faults&length != 0 {
			given.Mutable, want = append(given.Mutable, true), api.ErrArg
		}
		if faults == 0 {
			continue
		}
		x.stays("a type at fault", func() { x.noType(given, want) })
	}
}

// changedTypes are a type with each single field another, and with lists that are longer, shorter or in another order.
func changedTypes(base api.Rtd) []api.Rtd {
	var out []api.Rtd
	change := func(do func(t *api.Rtd)) {
		one := base
		one.Fields, one.Mutable = slices.Clone(base.Fields), slices.Clone(base.Mutable)
		do(&one)
		out = append(out, one)
	}
	change(func(t *api.Rtd) { t.Name = "" })
	change(func(t *api.Rtd) { t.Name += " " })
	change(func(t *api.Rtd) { t.Name = strings.ToUpper(t.Name) })
	change(func(t *api.Rtd) { t.Parent = -1 })
	change(func(t *api.Rtd) { t.Parent = 1 })
	change(func(t *api.Rtd) { t.Parent = 2 })
	change(func(t *api.Rtd) { t.Sealed = !t.Sealed })
	change(func(t *api.Rtd) { t.Opaque = !t.Opaque })
	for i := range base.Fields {
		change(func(t *api.Rtd) { t.Fields[i] += "'" })
		change(func(t *api.Rtd) { t.Mutable[i] = !t.Mutable[i] })
		change(func(t *api.Rtd) {
			t.Fields, t.Mutable = slices.Delete(t.Fields, i, i+1), slices.Delete(t.Mutable, i, i+1)
		})
	}
	for i := range len(base.Fields) + 1 {
		for _, mutable := range []bool{false, true} {
			change(func(t *api.Rtd) {
				t.Fields, t.Mutable = slices.Insert(t.Fields, i, "new"), slices.Insert(t.Mutable, i, mutable)
			})
		}
	}
	change(func(t *api.Rtd) { t.Fields, t.Mutable = nil, nil })
	change(func(t *api.Rtd) { slices.Reverse(t.Fields) })
	change(func(t *api.Rtd) { slices.Reverse(t.Mutable) })
	change(func(t *api.Rtd) { slices.Reverse(t.Fields); slices.Reverse(t.Mutable) })
	change(func(t *api.Rtd) { t.Fields[0], t.Fields[1] = t.Fields[1], t.Fields[0] })
	return out
}

// P15.1: a known Uid: its number for the same type, ErrTwice for any other.
func TestKnownUid(t *testing.T) {
	x := storeOf(t, rtd("a", -1, "x"), withUid("a", rtd("a", -1, "x")), rtd("a", 0, "x"))
	bases := []api.Rtd{withUid("u", rtd("b", 0, "p", "q!", "r!")), withUid("v", sealed(rtd("b", 0, "p!", "q", "r"))), withUid("U", opaque(rtd("b", 0, "p", "q", "r!"))), withUid("u ", sealed(opaque(rtd("b", 0, "p!", "q!", "r"))))}
	for n, base := range bases {
		x.typ(base, 3+n)
	}
	x.stays("types that are known", func() {
		for range 2 {
			for n, base := range bases {
				x.typ(base, 3+n)
				for _, other := range changedTypes(base) {
					x.noType(other, api.ErrTwice)
				}
			}
			x.typ(withUid("a", rtd("a", -1, "x")), 1)
		}
	})
	x.typ(withUid("w", rtd("b", 0, "p", "q!", "r!")), 7)
	x.typ(withUid("uu", rtd("b", 0, "p", "q!", "r!")), 8)
	x.typ(withUid("\xff", rtd("b", 0)), 9)
	x.typ(withUid("\xff", rtd("b", 0)), 9)
	x.typ(withUid("\ufffd", rtd("b", 0)), 10)
}

// P15.1: types without lists are the same, whether their lists are nil or empty.
func TestKnownUidWithoutFields(t *testing.T) {
	x := storeOf(t, withUid("u", rtd("a", -1)))
	x.typ(api.Rtd{Name: "a", Parent: -1, Uid: "u", Fields: []string{}, Mutable: []bool{}}, 0)
	x.typ(api.Rtd{Name: "a", Parent: -1, Uid: "v", Fields: make([]string, 0, 3), Mutable: make([]bool, 0, 3)}, 1)
	x.typ(withUid("v", rtd("a", -1)), 1)
	x.noType(withUid("v", rtd("a", -1, "x")), api.ErrTwice)
	x.noType(withUid("v", rtd("a", 0)), api.ErrTwice)
}

// P15.1: the empty Uid is none.
func TestEmptyUid(t *testing.T) {
	x := storeOf(t)
	for n := range 4 {
		x.typ(rtd("a", -1, "x"), n)
	}
	x.typ(rtd("b", -1, "x"), 4)
	x.typ(withUid("u", rtd("a", -1, "x")), 5)
	x.typ(rtd("a", -1, "x"), 6)
}

// P15.1: ErrArg ahead of a known Uid; a known Uid ahead of a sealed parent and of too many fields.
func TestKnownUidAmongErrors(t *testing.T) {
	u := withUid("u", rtd("a", -1, named("f", 10)...))
	x := storeOf(t, u, sealed(rtd("b", -1)), rtd("c", 0, named("g", 6)...), withUid("v", rtd("d", 2)))
	x.stays("types at fault", func() {
		short, twice, lost := u, u, u
		short.Mutable = short.Mutable[:9]
		twice.Fields = append(slices.Clone(u.Fields[:9]), "f0")
		lost.Parent = 4
		x.noType(short, api.ErrArg)
		x.noType(twice, api.ErrArg)
		x.noType(lost, api.ErrArg)
		x.noType(withUid("u", rtd("a", 1, named("f", 10)...)), api.ErrTwice)
		x.noType(withUid("u", rtd("a", -1, named("f", 17)...)), api.ErrTwice)
		x.noType(withUid("u", rtd("a", 0, named("f", 10)...)), api.ErrTwice)
		x.noType(withUid("w", rtd("a", 1, named("f", 17)...)), api.ErrType)
		x.noType(withUid("w", rtd("a", 2, "x")), api.ErrLarge)
		x.typ(u, 0)
		x.typ(withUid("v", rtd("d", 2)), 3)
	})
}

// P15.1: MaxKeys types and one more; what is known is still answered.
func TestMostTypes(t *testing.T) {
	x := storeOf(t, withUid("first", rtd("a", -1, "x")), sealed(rtd("b", -1)))
	for n := 2; n < mostTypes-1; n++ {
		if got, e := x.s.Type(rtd("c", -1)); got != n || e != api.OK {
			t.Fatalf("Type: %d, error %d; want %d", got, e, n)
		}
	}
	last := withUid("last", rtd("d", 0, "y!"))
	x.typ(last, mostTypes-1)
	for range 2 {
		x.noType(rtd("c", -1), api.ErrLarge)
		x.noType(rtd("c", mostTypes-1, "z"), api.ErrLarge)
		x.noType(withUid("new", rtd("c", -1)), api.ErrLarge)
		x.noType(rtd("c", 1), api.ErrType)
		x.noType(rtd("c", mostTypes), api.ErrArg)
		x.noType(rtd("c", -1, "x", "x"), api.ErrArg)
		x.typ(last, mostTypes-1)
		x.typ(withUid("first", rtd("a", -1, "x")), 0)
		x.noType(withUid("last", rtd("d", 0, "y")), api.ErrTwice)
		x.noType(withUid("first", rtd("a", 1, "x")), api.ErrTwice)
		x.noType(withUid("first", rtd("a", -1, named("f", 17)...)), api.ErrTwice)
	}
	x.fields(mostTypes-1, 2)
	x.noRtd(mostTypes, api.ErrNone)
	x.noFields(mostTypes, api.ErrNone)
	x.make(mostTypes-1, 0, numbers(1, 2)...)
	x.set(0, mostTypes-1, 0, sym("new"))
}

// P15.2: Rtd and Fields of each type, and of what is none.
func TestRtdAndFields(t *testing.T) {
	types := []api.Rtd{
		rtd("a", -1, "x", "y!"), rtd("", 0), sealed(rtd("b", 1, "z!")), opaque(rtd("c", 0, "x!")), rtd("d", 3, "é"), withUid("u", sealed(opaque(rtd("\xff\x00", 4, "", "\xfe!")))),
	}
	x := storeOf(t)
	for n, one := range types {
		for _, number := range []int{n, n + 1, -1, -2, minInt, maxInt, 1 << 32, mostTypes} {
			x.noRtd(number, api.ErrNone)
			x.noFields(number, api.ErrNone)
		}
		x.typ(one, n)
		for number := range n + 1 {
			x.rtd(number, types[number])
			x.fields(number, []int{2, 2, 3, 3, 4, 6}[number])
		}
	}
}
