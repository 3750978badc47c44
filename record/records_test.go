package record

import (
	"slices"
	"testing"

	"sextant/api"
)

// family: 0 is the first, 1 comes from it, 2 from 1, 3 from 2; 4 comes from 0 as 1 does; 5 is of no family. Record n is of type n, and its values are 10 n, 10 n + 1 and so on.
func family(t *testing.T) tried {
	t.Helper()
	x := storeOf(t, rtd("a", -1, "p!", "q"), rtd("b", 0, "r", "s!", "t!"), rtd("c", 1), rtd("d", 2, "u!", "v"), rtd("e", 0, "r!", "s"), rtd("f", -1, "w!"))
	for n, count := range []int{2, 5, 5, 7, 4, 1} {
		x.make(n, n, numbers(10*n, count)...)
	}
	return x
}

// parents are those of each type of the family, with the type itself, and where in a record its own fields begin.
func parents() [][]int { return [][]int{{0}, {0, 1}, {0, 1, 2}, {0, 1, 2, 3}, {0, 4}, {5}} }

func begins() []int { return []int{0, 2, 5, 5, 2, 0} }

func owns() []int { return []int{2, 3, 0, 2, 2, 1} }

// P15.3: records are numbered from 0 on, by themselves, and errors take no number.
func TestRecordNumbers(t *testing.T) {
	x := storeOf(t, rtd("a", -1), rtd("b", -1, "x"))
	for n := range 20 {
		x.make(0, 2*n)
		x.noMake(0, api.ErrArg, sym("a"))
		x.noMake(1, api.ErrForm, api.Datum{})
		x.make(1, 2*n+1, sym("b"))
		x.typ(rtd("a", -1), 2+n)
	}
	for n := range 20 {
		x.typeOf(2*n, 0)
		x.typeOf(2*n+1, 1)
	}
}

// P15.3: Make of a type that is not there, whatever the values are.
func TestMakeOfNone(t *testing.T) {
	for count := range 3 {
		x := storeOf(t, slices.Repeat([]api.Rtd{rtd("a", -1, "x")}, count)...)
		for _, number := range []int{count, count + 1, -1, -2, minInt, maxInt, 1 << 32, mostTypes} {
			for _, values := range [][]api.Datum{nil, numbers(0, 1), numbers(0, 20), {{}}} {
				x.stays("Make of no type", func() { x.noMake(number, api.ErrNone, values...) })
			}
		}
	}
}

// P15.3: as many values as fields.
func TestHowManyValues(t *testing.T) {
	x := storeOf(t, rtd("a", -1), rtd("b", -1, "x"), rtd("c", 1), rtd("d", 2, "y", "z"), rtd("e", -1, named("f", mostFields)...), rtd("f", 4))
	next := 0
	for number, fields := range []int{0, 1, 1, 3, mostFields, mostFields} {
		for count := range mostFields + 4 {
			if count == fields {
				x.make(number, next, numbers(0, count)...)
				next++
				continue
			}
			x.stays("too few or too many values", func() {
				x.noMake(number, api.ErrArg, numbers(0, count)...)
				x.noMake(number, api.ErrArg, slices.Repeat([]api.Datum{{}}, count)...)
			})
		}
	}
}

// P15.3: a value that is not sound, at each place.
func TestUnsoundValues(t *testing.T) {
	x := storeOf(t, rtd("a", -1, "x", "y"), rtd("b", 0, "z"), rtd("c", -1, named("f", mostFields)...))
	for number, count := range []int{2, 3, mostFields} {
		for _, bad := range unsound() {
			for at := range count {
				values := numbers(0, count)
				values[at] = bad
				x.noMake(number, api.ErrForm, values...)
			}
			x.noMake(number, api.ErrForm, slices.Repeat([]api.Datum{bad}, count)...)
		}
	}
	x.noTypeOf(0, api.ErrNone)
	x.make(2, 0, numbers(0, mostFields)...)
}

// P15.3: all that is sound is a value, as large and as deep as may be.
func TestSoundValues(t *testing.T) {
	deep := sym("a")
	for range deepest - 1 {
		deep = vector(deep)
	}
	data := append(someData(), deep, vector(slices.Repeat(read("()"), mostNodes-1)...))
	x := storeOf(t, rtd("a", -1, "x!"), rtd("b", 0, "y!"))
	for n, d := range data {
		x.make(1, n, sym("a"), d)
		x.get(n, 1, 0, d)
		x.set(n, 0, 0, d)
	}
	x.make(1, len(data), data[len(data)-1], data[len(data)-1])
}

// P15.3: MaxNodes records and one more.
func TestMostRecords(t *testing.T) {
	x := storeOf(t, rtd("a", -1), rtd("b", 0, "x!"), opaque(rtd("c", -1)))
	for n := range mostRecords - 1 {
		if r, e := x.s.Make(0, nil); r != n || e != api.OK {
			t.Fatalf("Make: %d, error %d; want %d", r, e, n)
		}
	}
	last := mostRecords - 1
	x.make(1, last, sym("a"))
	for range 2 {
		x.noMake(0, api.ErrFull)
		x.noMake(1, api.ErrFull, sym("a"))
		x.noMake(2, api.ErrFull)
		x.noMake(1, api.ErrForm, api.Datum{})
		x.noMake(1, api.ErrArg)
		x.noMake(0, api.ErrArg, sym("a"))
		x.noMake(3, api.ErrNone)
	}
	x.typeOf(last, 1)
	x.typeOf(last-1, 0)
	x.noTypeOf(mostRecords, api.ErrNone)
	x.refused(mostRecords, 0, api.ErrNone)
	x.set(last, 1, 0, sym("b"))
	x.typ(rtd("d", 1), 3)
	x.noMake(3, api.ErrFull, sym("a"))
	x.is(last, 3, false)
}

// P15.3: TypeOf of what is there and of what is not.
func TestTypeOf(t *testing.T) {
	x := family(t)
	for r := range 6 {
		x.typeOf(r, r)
	}
	for _, r := range []int{6, 7, -1, -2, minInt, maxInt, 1 << 32, mostRecords} {
		x.noTypeOf(r, api.ErrNone)
	}
	storeOf(t).noTypeOf(0, api.ErrNone)
	storeOf(t, rtd("a", -1)).noTypeOf(0, api.ErrNone)
}

// P15.3: opaque itself, by its parent, or by its parent's parent, whatever it says; a child or one beside it does not make it so.
func TestOpaque(t *testing.T) {
	x := storeOf(t,
		rtd("clear", -1), opaque(rtd("itself", 0)), rtd("by its parent", 1, "x!"), sealed(rtd("by its parent's parent", 2)), rtd("beside", 0),
		opaque(rtd("first", -1)), opaque(rtd("both", 5)), rtd("below both", 6), rtd("below clear", 4), opaque(rtd("below", 8)), rtd("last", 9), withUid("u", rtd("known", 5)),
	)
	isOpaque := []int{1, 2, 3, 5, 6, 7, 9, 10, 11}
	for number := range 12 {
		n, _ := x.s.Fields(number)
		x.make(number, number, numbers(0, n)...)
	}
	for r := range 12 {
		if slices.Contains(isOpaque, r) {
			x.noTypeOf(r, api.ErrType)
		} else {
			x.typeOf(r, r)
		}
	}
	x.is(3, 1, true)
	x.is(3, 0, true)
	x.is(2, 2, true)
	x.get(3, 2, 0, numbers(0, 1)[0])
	x.set(3, 2, 0, sym("new"))
	x.rtd(2, rtd("by its parent", 1, "x!"))
	x.rtd(11, withUid("u", rtd("known", 5)))
	x.typ(withUid("u", rtd("known", 5)), 11)
	x.noType(withUid("u", opaque(rtd("known", 5))), api.ErrTwice)
}

// P15.4: Is of each record and each type of a family.
func TestIs(t *testing.T) {
	x := family(t)
	for r, line := range parents() {
		for number := range parents() {
			x.is(r, number, slices.Contains(line, number))
		}
	}
}

// P15.4: records and types that are not there: ErrNone ahead of all else.
func TestNotThere(t *testing.T) {
	x := family(t)
	none := []int{6, 7, -1, -2, minInt, maxInt, 1 << 32, mostTypes, mostRecords}
	x.stays("what is not there", func() {
		for _, a := range none {
			for there := range 6 {
				x.refused(a, there, api.ErrNone)
				x.refused(there, a, api.ErrNone)
			}
			for _, b := range none {
				x.refused(a, b, api.ErrNone)
			}
		}
	})
	x.make(5, 6, sym("a"))
	x.refused(6, 6, api.ErrNone)
	x.is(6, 5, true)
	x.typ(rtd("g", 5), 6)
	x.is(6, 6, false)
}

// P15.4: a store without types, and one without records.
func TestEmptyStores(t *testing.T) {
	for _, x := range []tried{storeOf(t), storeOf(t, rtd("a", -1, "x!"))} {
		for r := -1; r < 3; r++ {
			for number := -1; number < 3; number++ {
				x.refused(r, number, api.ErrNone)
			}
		}
	}
}

// P15.4: Get of each place of each type of each record: its parents' fields come first.
func TestGet(t *testing.T) {
	x := family(t)
	for r, line := range parents() {
		for number, own := range owns() {
			if !slices.Contains(line, number) {
				x.outside(r, number, api.ErrType)
				continue
			}
			for i := range own {
				x.get(r, number, i, numbers(10*r+begins()[number]+i, 1)[0])
			}
		}
	}
}

// P15.4: places that are none of the type's own, though the record may have a parent's or a child's field there.
func TestNoPlace(t *testing.T) {
	x := family(t)
	x.stays("a place that is none", func() {
		for r, line := range parents() {
			for _, number := range line {
				own := owns()[number]
				for _, i := range []int{-1, own, own + 1, -2, own - 8, 7, mostFields, minInt, maxInt, 1 << 32, -1 << 32} {
					if i < 0 || i >= own {
						x.noPlace(r, number, i, api.ErrArg)
					}
				}
			}
		}
	})
}

// P15.4: Set of each field changes it, and nothing else; one that cannot be changed stays.
func TestSet(t *testing.T) {
	x := family(t)
	for r, line := range parents() {
		for _, number := range line {
			given, _ := x.s.Rtd(number)
			for i, mutable := range given.Mutable {
				if !mutable {
					x.stays("Set of a field that cannot be changed", func() {
						x.noSet(r, number, i, sym("new"), api.ErrTwice)
						was, _ := x.s.Get(r, number, i)
						x.noSet(r, number, i, was, api.ErrTwice)
					})
					continue
				}
				want := x.seen()
				at := begins()[number] + i
				for _, v := range append(someData(), numbers(1000*r+at, 1)...) {
					x.set(r, number, i, v)
					want.records[r].values[at] = v
				}
				if !sameSeen(x.seen(), want) {
					t.Errorf("Set(%d, %d, %d) has changed something else", r, number, i)
				}
			}
		}
	}
}

// P15.4, R2: a value that is not sound, for fields that can be changed and for those that cannot: ErrForm ahead of ErrTwice.
func TestSetUnsound(t *testing.T) {
	x := family(t)
	x.stays("Set of a value that is not sound", func() {
		for _, bad := range unsound() {
			for number, own := range owns() {
				for i := range own {
					x.noSet(number, number, i, bad, api.ErrForm)
				}
				x.noSet(number, number, own, bad, api.ErrArg)
				x.noSet(number, number, -1, bad, api.ErrArg)
				x.noSet(number, (number+5)%6, 0, bad, x.faultOf(number, (number+5)%6))
				x.noSet(6, number, 0, bad, api.ErrNone)
				x.noSet(number, 6, 0, bad, api.ErrNone)
			}
		}
	})
}

// faultOf is what stands against place 0, ahead of what is said of the value: the record is not of the type, or the place is none.
func (x tried) faultOf(r, number int) api.Errno {
	switch {
	case !slices.Contains(parents()[r], number):
		return api.ErrType
	case owns()[number] == 0:
		return api.ErrArg
	}
	return api.ErrForm
}

// P15.4: a field of a parent is one and the same, whichever types the record has; records of one type are apart.
func TestRecordsAreApart(t *testing.T) {
	x := storeOf(t, rtd("a", -1, "x!", "y!"), rtd("b", 0, "z!"))
	for n := range 6 {
		x.make(n%2, n, numbers(0, 2+n%2)...)
	}
	for n := range 6 {
		x.set(n, 0, n%2, sym("new"))
		for m := range 6 {
			for i := range 2 {
				want := numbers(i, 1)[0]
				if m <= n && m%2 == i {
					want = sym("new")
				}
				x.get(m, 0, i, want)
			}
		}
	}
}

// P15.1 to P15.4: chains of parents as long as may be.
func TestLongChain(t *testing.T) {
	x := storeOf(t)
	for n := range mostTypes {
		one := rtd("a", n-1)
		if n%256 == 255 {
			one = rtd("a", n-1, "x!")
		}
		one.Opaque = n == mostTypes-2
		if got, e := x.s.Type(one); got != n || e != api.OK {
			t.Fatalf("Type: %d, error %d; want %d", got, e, n)
		}
	}
	last := mostTypes - 1
	x.fields(last, mostFields)
	x.fields(254, 0)
	x.fields(255, 1)
	x.make(last, 0, numbers(0, mostFields)...)
	x.make(last-2, 1, numbers(0, mostFields-1)...)
	x.make(0, 2)
	x.noTypeOf(0, api.ErrType)
	x.typeOf(1, last-2)
	x.typeOf(2, 0)
	for n := range mostFields {
		x.get(0, 256*n+255, 0, numbers(n, 1)[0])
		x.noPlace(0, 256*n+255, 1, api.ErrArg)
		x.noPlace(0, 256*n+254, 0, api.ErrArg)
	}
	x.set(0, 255, 0, sym("first"))
	x.set(0, last, 0, sym("last"))
	for _, number := range []int{0, 1, 2000, last - 1, last} {
		x.is(0, number, true)
		x.is(1, number, number < last-1)
		x.is(2, number, number == 0)
	}
}
