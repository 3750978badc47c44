package expand

import (
	"bytes"
	"slices"
	"strconv"
	"strings"
	"sync"
	"testing"

	"sextant/api"
	"sextant/datum"
	"sextant/write"
)

// The limits written out, so that the tests do not follow a slip of the program's.
const (
	mostNodes  = 20000
	deepest    = 200
	mostUses   = 20000
	mostLocals = 100000
)

// read is the data of a text.
func read(s string) []api.Datum {
	data, _, e := datum.All(s)
	if e != api.OK {
		panic(s)
	}
	return data
}

// one is the datum of a text.
func one(s string) api.Datum {
	data := read(s)
	if len(data) != 1 {
		panic(s)
	}
	return data[0]
}

func sym(text string) api.Datum { return api.Datum{Kind: api.Symbol, Text: text} }

func empty() api.Datum { return api.Datum{Kind: api.Nil} }

func vectorDatum(items ...api.Datum) api.Datum { return api.Datum{Kind: api.Vector, List: items} }

func list(items ...api.Datum) api.Datum { return dotted(empty(), items...) }

// dotted is a list that ends with last.
func dotted(last api.Datum, items ...api.Datum) api.Datum {
	for _, item := range slices.Backward(items) {
		last = api.Datum{Kind: api.Pair, List: []api.Datum{item, last}}
	}
	return last
}

func times(d api.Datum, n int) []api.Datum { return slices.Repeat([]api.Datum{d}, n) }

// nested is a datum in so many vectors.
func nested(d api.Datum, levels int) api.Datum {
	for range levels {
		d = vectorDatum(d)
	}
	return d
}

// unsound are data that are none, each for another reason.
func unsound() []api.Datum {
	out := []api.Datum{
		{}, {Kind: 12}, {Kind: -1}, {Kind: api.Nil, N: 1}, {Kind: api.Bool, N: 2}, {Kind: api.Number}, {Kind: api.Char, N: 0xD800},
		sym("\xff"), {Kind: api.String, Text: "a\xc3"}, {Kind: api.Bytes, Text: "a"}, {Kind: api.Pair}, {Kind: api.Vector, Raw: []byte{1}},
		vectorDatum(times(empty(), mostNodes)...), nested(sym("a"), deepest), list(sym("quote"), api.Datum{}),
	}
	circle := read("() ()")
	circle[1] = api.Datum{Kind: api.Pair, List: circle}
	return append(out, circle[1])
}

func alikeRat(a, b api.Rat) bool {
	return a.Neg == b.Neg && slices.Equal(a.Top, b.Top) && slices.Equal(a.Bot, b.Bot)
}

// alike holds all fields of two data against each other; nil and empty lists are the same.
func alike(a, b api.Datum) bool {
	return a.Kind == b.Kind && a.N == b.N && alikeRat(a.Num.Re, b.Num.Re) && alikeRat(a.Num.Im, b.Num.Im) &&
		a.Text == b.Text && bytes.Equal(a.Raw, b.Raw) && slices.EqualFunc(a.List, b.List, alike)
}

func alikeCore(a, b api.Core) bool {
	return a.Op == b.Op && alike(a.Value, b.Value) && a.Name == b.Name && slices.Equal(a.Params, b.Params) && a.Rest == b.Rest && slices.EqualFunc(a.Args, b.Args, alikeCore)
}

func alikeCores(a, b []api.Core) bool { return slices.EqualFunc(a, b, alikeCore) }

// told is a core as a text, with all that it should have: a constant behind a ', a variable's name, and other cores in brackets. It ends with ! if there is anything beside.
func told(c api.Core) string {
	s := toldPlain(c)
	bare := api.Core{Op: c.Op, Args: c.Args}
	switch c.Op {
	case api.Const:
		bare.Value, bare.Args = c.Value, nil
	case api.Ref:
		bare.Name, bare.Args = c.Name, nil
	case api.Set, api.Define:
		bare.Name = c.Name
	case api.Lambda:
		bare.Params, bare.Rest = c.Params, c.Rest
	case api.Letrec:
		bare.Params = c.Params
	}
	if !alikeCore(bare, c) {
		s += "!"
	}
	return s
}

func toldPlain(c api.Core) string {
	var words []string
	switch c.Op {
	case api.Const:
		s, _ := write.Write(c.Value)
		return "'" + s
	case api.Ref:
		return c.Name
	case api.Set:
		words = []string{"set", c.Name}
	case api.If:
		words = []string{"if"}
	case api.Lambda:
		words = []string{"lambda", params(c)}
	case api.Seq:
		words = []string{"seq"}
	case api.Call:
		words = []string{"call"}
	case api.Define:
		words = []string{"define", c.Name}
	case api.Letrec:
		words = []string{"letrec", params(c)}
	default:
		words = []string{"none", strconv.Itoa(c.Op)}
	}
	for _, arg := range c.Args {
		words = append(words, told(arg))
	}
	return "(" + strings.Join(words, " ") + ")"
}

func params(c api.Core) string {
	names := slices.Clone(c.Params)
	if c.Rest && len(names) > 0 {
		names = slices.Insert(names, len(names)-1, ".")
	}
	return "(" + strings.Join(names, " ") + ")"
}

func toldAll(list []api.Core) string {
	var out []string
	for _, c := range list {
		out = append(out, told(c))
	}
	return strings.Join(out, " ")
}

// scope is one of number 1 with all names of a base.
func scope(t testing.TB) *Scope { return numbered(t, 1) }

// aBase is one for many scopes, since it takes its time.
var aBase = sync.OnceValue(func() *Scope {
	base, _ := Base()
	return base
})

func numbered(t testing.TB, number int) *Scope {
	t.Helper()
	base := aBase()
	s, e := New(number)
	if e != api.OK {
		t.Fatalf("New(%d): error %d", number, e)
	}
	for _, name := range base.Names() {
		if e := s.Import(name, base, name); e != api.OK {
			t.Fatalf("Import(%q): error %d", name, e)
		}
	}
	return s
}

// adds: Forms in a scope answers the cores that a text tells.
func adds(t *testing.T, s *Scope, program, want string) {
	t.Helper()
	forms := read(program)
	list, at, e := s.Forms(forms)
	if e != api.OK || at != 0 {
		t.Errorf("%s: error %d at %d; want %s", brief(program), e, at, brief(want))
		return
	}
	if got := toldAll(list); got != want {
		t.Errorf("%s:\ngot  %s\nwant %s", brief(program), brief(got), brief(want))
	}
}

// gives: a new scope with all names of the base answers those cores.
func gives(t *testing.T, program, want string) {
	t.Helper()
	adds(t, scope(t), program, want)
}

// fails: Forms in a scope answers an error in a form, and leaves the scope as it was.
func fails(t *testing.T, s *Scope, forms []api.Datum, want api.Errno, place int) {
	t.Helper()
	text := "program"
	if all, e := write.Write(list(forms...)); e == api.OK {
		text = brief(all)
	}
	names := s.Names()
	got, at, e := s.Forms(forms)
	if e != want || at != place || len(got) > 0 {
		t.Errorf("%s: %d cores, error %d at %d; want error %d at %d", text, len(got), e, at, want, place)
	}
	if !slices.Equal(s.Names(), names) {
		t.Errorf("%s: the scope has other names", text)
	}
}

// refuses: a new scope with all names of the base answers an error, and still begins with the number 1.
func refuses(t *testing.T, program string, want api.Errno, place int) {
	t.Helper()
	s := scope(t)
	fails(t, s, read(program), want, place)
	adds(t, s, "(lambda (probe) probe)", "(lambda (#1:probe) #1:probe)")
}

// refusesEach: each datum of a text is refused alone, at the top, in a body, and as an argument.
func refusesEach(t *testing.T, texts string, want api.Errno) {
	t.Helper()
	for _, d := range read(texts) {
		s := scope(t)
		fails(t, s, []api.Datum{d}, want, 0)
		fails(t, s, []api.Datum{one("1"), list(sym("lambda"), empty(), d)}, want, 1)
		fails(t, s, []api.Datum{list(sym("car"), d)}, want, 0)
		adds(t, s, "(lambda (probe) probe)", "(lambda (#1:probe) #1:probe)")
	}
}

func brief(s string) string { return s[:min(len(s), 700)] }
