package imports

import (
	"slices"
	"strings"

	"sextant/api"
	"sextant/datum"
	"sextant/pattern"
	"sextant/write"
)

// The model takes forms apart by patterns, references into the versions of a small world that fit, and looks for bindings and libraries by going through all of them.

// parts are what the variables of a pattern match in a datum, the items of all of depth 1; all words of it that have a capital are variables, the others stand for themselves.
func parts(text string, d api.Datum) (map[string][]api.Datum, bool) {
	literals := slices.DeleteFunc(strings.FieldsFunc(text, func(c rune) bool { return strings.ContainsRune("(). ", c) }), func(word string) bool { return word != strings.ToLower(word) })
	m, e := pattern.Find(one(text), literals, d)
	if e != api.OK {
		return nil, false
	}
	out := map[string][]api.Datum{}
	for _, match := range m {
		if match.Depth == 0 {
			out[match.Name] = []api.Datum{match.Value}
		}
		for _, item := range match.List {
			out[match.Name] = append(out[match.Name], item.Value)
		}
	}
	return out, true
}

// texts are those of symbols.
func texts(data []api.Datum) ([]string, bool) {
	var out []string
	ok := true
	for _, d := range data {
		out, ok = append(out, d.Text), ok && d.Kind == api.Symbol
	}
	return out, ok
}

// whole is the number that a datum writes, if that is one of a version.
func whole(d api.Datum) (int, bool) {
	text, _ := write.Write(d)
	if d.Kind != api.Number || len(text) > 10 || strings.ContainsAny(text, "-/i") {
		return 0, false
	}
	n := 0
	for _, digit := range text {
		n = 10*n + int(digit-'0')
	}
	return n, n <= mostOf
}

// smallVersions are all of up to three numbers from 0 to 3.
func smallVersions() [][]int {
	out := [][]int{nil}
	for at := 0; len(out[at]) < 3; at++ {
		for n := range 4 {
			out = append(out, append(slices.Clone(out[at]), n))
		}
	}
	return out
}

var small = smallVersions()

// combined are the members of sets of a world of so many, put together by and, or or not.
func combined(size int, some [][]bool, word string) []bool {
	out := make([]bool, size)
	for i := range out {
		count := 0
		for _, in := range some {
			if in[i] {
				count++
			}
		}
		out[i] = word == "and" && count == len(some) || word == "or" && count > 0 || word == "not" && count == 0
	}
	return out
}

// logic tells of an and, an or or a not which of a world of so many it fits.
func logic(d api.Datum, size int, plain func(api.Datum) ([]bool, bool)) ([]bool, bool) {
	for _, form := range []string{"(and Part ...)", "(or Part ...)", "(not Part)"} {
		found, ok := parts(form, d)
		if !ok {
			continue
		}
		var some [][]bool
		for _, part := range found["Part"] {
			in, fine := plain(part)
			ok = ok && fine
			some = append(some, in)
		}
		if !ok {
			return nil, false
		}
		return combined(size, some, strings.Fields(strings.Trim(form, "()"))[0]), true
	}
	return nil, false
}

// plainSub: which of the numbers from 0 to 3 a sub-reference fits.
func plainSub(d api.Datum) ([]bool, bool) {
	out := make([]bool, 4)
	for _, form := range []struct {
		text string
		is   func(n, bound int) bool
	}{{"Bound", func(n, bound int) bool { return n == bound }}, {"(>= Bound)", func(n, bound int) bool { return n >= bound }}, {"(<= Bound)", func(n, bound int) bool { return n <= bound }}} {
		found, ok := parts(form.text, d)
		if !ok {
			continue
		}
		if bound, ok := whole(found["Bound"][0]); ok {
			for n := range out {
				out[n] = form.is(n, bound)
			}
			return out, true
		}
	}
	return logic(d, 4, plainSub)
}

// plainReference: which of the small versions a reference fits.
func plainReference(d api.Datum) ([]bool, bool) {
	if out, ok := logic(d, len(small), plainReference); ok {
		return out, true
	}
	found, ok := parts("(Sub ...)", d)
	if !ok {
		return nil, false
	}
	var rows [][]bool
	for _, sub := range found["Sub"] {
		row, fine := plainSub(sub)
		rows, ok = append(rows, row), ok && fine
	}
	if !ok {
		return nil, false
	}
	var out []bool
	for _, v := range small {
		in := len(v) >= len(rows)
		for i := range rows {
			in = in && rows[i][v[i]]
		}
		out = append(out, in)
	}
	return out, true
}

// plainName is a name, and the datum behind it, which is Nil if there is none.
func plainName(d api.Datum) ([]string, api.Datum, bool) {
	if found, ok := parts("(Name ...)", d); ok && len(found["Name"]) > 0 {
		if name, ok := texts(found["Name"]); ok {
			return name, empty(), true
		}
	}
	if found, ok := parts("(First Name ... Last)", d); ok {
		name, ok := texts(append(found["First"], found["Name"]...))
		return name, found["Last"][0], ok
	}
	return nil, api.Datum{}, false
}

func plainInner(d api.Datum) (api.Import, bool) {
	name, ref, ok := plainName(d)
	if !ok {
		return api.Import{}, false
	}
	_, ok = plainReference(ref)
	return api.Import{Name: name, Ref: ref}, ok
}

func plainSet(d api.Datum) (api.Import, bool) {
	for i, form := range []string{"(only Set Name ...)", "(except Set Name ...)", "(prefix Set Name)", "(rename Set (Name Outside) ...)"} {
		if found, ok := parts(form, d); ok {
			inner, ok := plainSet(found["Set"][0])
			var behind []api.Datum
			for at, name := range found["Name"] {
				behind = append(behind, name)
				if i == 3 {
					behind = append(behind, found["Outside"][at])
				}
			}
			names, fine := texts(behind)
			return api.Import{Kind: i + 1, Of: []api.Import{inner}, Names: names}, ok && fine
		}
	}
	if found, ok := parts("(for Set Anything ...)", d); ok {
		return plainSet(found["Set"][0])
	}
	if found, ok := parts("(library Name)", d); ok {
		return plainInner(found["Name"][0])
	}
	for _, word := range words("only except prefix rename for library") {
		if _, ok := parts("("+word+" . Rest)", d); ok {
			return api.Import{}, false
		}
	}
	return plainInner(d)
}

func plainRead(d api.Datum) (api.Import, api.Errno) {
	if !datum.Sound(d) {
		return api.Import{}, api.ErrForm
	}
	i, ok := plainSet(d)
	if !ok {
		return api.Import{}, api.ErrForms
	}
	return i, api.OK
}

// plainVersion answers for small versions alone.
func plainVersion(v []int, ref api.Datum) (bool, api.Errno) {
	if !datum.Sound(ref) {
		return false, api.ErrForm
	}
	all, ok := plainReference(ref)
	if !ok {
		return false, api.ErrForms
	}
	at := slices.IndexFunc(small, func(one []int) bool { return slices.Equal(one, v) })
	if at < 0 { // the world has all that are right
		return false, api.ErrArg
	}
	return all[at], api.OK
}

func withName(list []api.Binding, name string) []api.Binding {
	var out []api.Binding
	for _, b := range list {
		if b.Name == name {
			out = append(out, b)
		}
	}
	return out
}

func plainOutcome(i api.Import, inner []api.Binding) ([]api.Binding, api.Errno) {
	var out []api.Binding
	for at, name := range i.Names {
		found := withName(inner, name)
		if len(found) == 0 && (i.Kind < 3 || i.Kind == 4 && at%2 == 0) {
			return nil, api.ErrBound
		}
		if i.Kind == 1 {
			out = append(out, found...)
		}
	}
	for _, b := range inner {
		switch at := slices.Index(i.Names, b.Name); i.Kind {
		case 2:
			if at < 0 {
				out = append(out, b)
			}
		case 3:
			out = append(out, api.Binding{Name: strings.Join([]string{i.Names[0], b.Name}, ""), Of: b.Of})
		case 4:
			for at := 0; at < len(i.Names); at += 2 {
				if i.Names[at] == b.Name {
					b.Name = i.Names[at+1]
					break
				}
			}
			out = append(out, b)
		}
	}
	return out, api.OK
}

func plainNames(i api.Import, exports []api.Binding) ([]api.Binding, api.Errno) {
	out, e := exports, api.OK
	if i.Kind != 0 || len(i.Of) > 0 {
		if i.Kind == 0 || len(i.Of) != 1 {
			return nil, api.ErrForms
		}
		inner, e := plainNames(i.Of[0], exports)
		switch count := len(i.Names); {
		case e != api.OK:
			return nil, e
		case i.Kind < 0 || i.Kind > 4 || i.Kind == 3 && count != 1 || i.Kind == 4 && count%2 == 1:
			return nil, api.ErrForms
		}
		if out, e = plainOutcome(i, inner); e != api.OK {
			return nil, e
		}
	}
	for _, b := range out {
		if len(withName(out, b.Name)) > 1 {
			return nil, api.ErrTwice
		}
	}
	return out, e
}

func plainMerge(given ...[]api.Binding) ([]api.Binding, api.Errno) {
	all := slices.Concat(given...)
	slices.SortFunc(all, func(a, b api.Binding) int {
		return strings.Compare(a.Name, b.Name)*2 + strings.Compare(a.Of, b.Of)
	})
	all = slices.Compact(all)
	for i := range all {
		if i > 0 && all[i].Name == all[i-1].Name {
			return nil, api.ErrTwice
		}
	}
	return all, api.OK
}

func plainExports(items []api.Datum) ([]api.Binding, bool) {
	var out []api.Binding
	for _, item := range items {
		if item.Kind == api.Symbol {
			out = append(out, api.Binding{Name: item.Text, Of: item.Text})
			continue
		}
		found, ok := parts("(rename (Inside Outside) ...)", item)
		inside, fine := texts(found["Inside"])
		outside, good := texts(found["Outside"])
		if !ok || !fine || !good {
			return nil, false
		}
		for i := range inside {
			out = append(out, api.Binding{Name: outside[i], Of: inside[i]})
		}
	}
	return out, true
}

func plainLibrary(d api.Datum) (api.Library, api.Errno) {
	if !datum.Sound(d) {
		return api.Library{}, api.ErrForm
	}
	found, ok := parts("(library Name (export Item ...) (import Set ...) Form ...)", d)
	if !ok {
		return api.Library{}, api.ErrForms
	}
	out := api.Library{Body: found["Form"]}
	name, last, ok := plainName(found["Name"][0])
	numbers, fine := parts("(Number ...)", last)
	exports, good := plainExports(found["Item"])
	out.Name, out.Exports, ok = name, exports, ok && fine && good
	for _, d := range numbers["Number"] {
		n, fine := whole(d)
		out.Version, ok = append(out.Version, n), ok && fine
	}
	for _, d := range found["Set"] {
		i, fine := plainSet(d)
		out.Imports, ok = append(out.Imports, i), ok && fine
	}
	if !ok {
		return api.Library{}, api.ErrForms
	}
	for _, b := range exports {
		if len(withName(exports, b.Name)) > 1 {
			return api.Library{}, api.ErrTwice
		}
	}
	return out, api.OK
}

// plainInside is the set that stands furthest inside.
func plainInside(i api.Import) (api.Import, api.Errno) {
	if i.Kind == 0 && len(i.Of) == 0 {
		return i, api.OK
	}
	if i.Kind < 1 || i.Kind > 4 || len(i.Of) != 1 || i.Kind == 3 && len(i.Names) != 1 || i.Kind == 4 && len(i.Names)%2 == 1 {
		return api.Import{}, api.ErrForms
	}
	return plainInside(i.Of[0])
}

// plainNeeds goes down each way, whether it has gone there already or not: what has been put into the list stays where it came first.
func plainNeeds(libs []api.Library, imports []api.Import, path []int) ([]int, api.Errno) {
	var out []int
	for _, i := range imports {
		inside, e := plainInside(i)
		if e != api.OK {
			return nil, e
		}
		if strings.Join(inside.Name, "\x00") == "rnrs" {
			continue
		}
		at := -1
		for k, l := range libs {
			if at >= 0 || strings.Join(l.Name, "\x00") != strings.Join(inside.Name, "\x00") {
				continue
			}
			fits, e := plainVersion(l.Version, inside.Ref)
			if e == api.ErrForm || e == api.ErrForms {
				return nil, e
			}
			if fits && e == api.OK {
				at = k
			}
		}
		switch {
		case at < 0:
			return nil, api.ErrNone
		case slices.Contains(path, at):
			return nil, api.ErrCycle
		}
		needed, e := plainNeeds(libs, libs[at].Imports, append(slices.Clone(path), at))
		if e != api.OK {
			return nil, e
		}
		for _, k := range append(needed, at) {
			if !slices.Contains(out, k) {
				out = append(out, k)
			}
		}
	}
	return out, api.OK
}

func plainOrder(libs []api.Library, imports []api.Import) ([]int, api.Errno) {
	for i, a := range libs {
		for _, b := range libs[:i] {
			if slices.Equal(a.Name, b.Name) && slices.Equal(a.Version, b.Version) {
				return nil, api.ErrTwice
			}
		}
	}
	if len(libs) > mostLibs {
		return nil, api.ErrLarge
	}
	return plainNeeds(libs, imports, nil)
}
