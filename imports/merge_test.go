package imports

import (
	"slices"
	"strconv"
	"testing"

	"sextant/api"
)

// P18.4: all bindings, by rising Name.
func TestMerge(t *testing.T) {
	merges(t, nil)
	merges(t, nil, nil)
	merges(t, nil, nil, bound(""), nil)
	merges(t, bound("x=f"), bound("x=f"))
	merges(t, bound("a b=f c=f d=a"), bound("d=a b=f"), bound("c=f a"))
	merges(t, bound("a b=f c=f d=a"), bound("a"), bound("b=f"), nil, bound("c=f"), bound("d=a"))
	merges(t, bound("x y z"), bound("z y x"))
	merges(t, bound("X Z _ a x xx y é"), bound("é y xx x a _ Z X"))
	merges(t, bound("10 2 9"), bound("9"), bound("10"), bound("2"))
	strange := []api.Binding{{Name: "", Of: "b"}, {Name: "\x00", Of: ""}, {Name: "\x80", Of: "\xff"}, {Name: "\xc3", Of: ""}, {Name: "é", Of: ""}, {Name: "\xff", Of: "\x80"}}
	back := slices.Clone(strange)
	slices.Reverse(back)
	merges(t, strange, back)
	merges(t, strange, back[3:], back[:3], strange)
}

// P18.4: one binding that stands twice, in one list or in two, stands once.
func TestMergeOnce(t *testing.T) {
	merges(t, bound("x"), bound("x x"))
	merges(t, bound("x=f"), bound("x=f"), bound("x=f"), bound("x=f x=f"))
	merges(t, bound("x=f y=f z=x"), bound("z=x x=f"), bound("x=f y=f"), bound("y=f z=x"))
	merges(t, []api.Binding{{}}, []api.Binding{{}}, []api.Binding{{}})
}

// P18.4: one name with another meaning, in one list or in two, next to the first or far from it.
func TestMergeTwice(t *testing.T) {
	noMerge(t, bound("x=f x=g"))
	noMerge(t, bound("x x=f"))
	noMerge(t, bound("x=f"), bound("x=g"))
	noMerge(t, bound("x=f"), nil, bound("x"))
	noMerge(t, bound("a x=f b"), bound("c x=f"), bound("d x=g"))
	noMerge(t, bound("x=f y=g x=f z x=F"))
	noMerge(t, bound("x=f x=g x=f"))
	noMerge(t, []api.Binding{{Name: "", Of: ""}}, []api.Binding{{Name: "", Of: "a"}})
	noMerge(t, []api.Binding{{Name: "x", Of: "a"}}, []api.Binding{{Name: "x", Of: ""}})
	merges(t, bound("f=x g=x x=f"), bound("x=f f=x"), bound("g=x"))
}

// P18.4: however many there are.
func TestMergeMany(t *testing.T) {
	var given [][]api.Binding
	var all []api.Binding
	for i := range 300 {
		var some []api.Binding
		for j := range 300 {
			name := strconv.Itoa(100000 + (i*211+j*97)%50000)
			some = append(some, api.Binding{Name: name, Of: "of " + name})
		}
		given, all = append(given, some), append(all, some...)
	}
	slices.SortFunc(all, func(a, b api.Binding) int {
		n, _ := strconv.Atoi(a.Name)
		m, _ := strconv.Atoi(b.Name)
		return n - m
	})
	merges(t, slices.Compact(all), given...)
	noMerge(t, append(given, bound("100000=x"))...)
}
