package expand

import (
	"math/rand"
	"slices"
	"strconv"
	"strings"
	"testing"

	"sextant/api"
)

// drawn tells what is done by bytes, one after the other; 0, when there are no more.
type drawn struct {
	bytes  []byte
	names  []string // that mean variables where the drawing is
	macros [][]shape
	tops   int
	many   string // the variable with an ellipsis of the rule that is drawn, if there is one
}

func (d *drawn) next(below int) int {
	if len(d.bytes) == 0 {
		return 0
	}
	b := int(d.bytes[0])
	d.bytes = d.bytes[1:]
	return b % below
}

func (d *drawn) seldom() bool { return d.next(48) == 47 }

func (d *drawn) of(list ...string) string { return list[d.next(len(list))] }

// name is mostly of a variable.
func (d *drawn) name() string {
	if d.seldom() {
		return d.of("a", "nobody", "if", "let", "t", "...", "_", "m0", "define", "car")
	}
	return d.names[d.next(len(d.names))]
}

// binder is a name that is bound anew, perhaps that of a keyword or a macro.
func (d *drawn) binder() string {
	if d.next(6) == 5 {
		return d.of("if", "let", "list", "else", "lambda", "define", "m0", "begin", "quote", "or", "=>", "syntax-rules")
	}
	return d.of("x", "y", "a", "b", "t", "u")
}

// binders are different ones, mostly.
func (d *drawn) binders(count int) []string {
	var out []string
	for range count {
		if name := d.binder(); d.seldom() || !slices.Contains(out, name) {
			out = append(out, name)
		}
	}
	return out
}

// within draws with more names that mean variables.
func (d *drawn) within(names []string, draw func() string) string {
	kept := d.names
	d.names = slices.Concat(names, names, kept)
	defer func() { d.names = kept }()
	return draw()
}

func (d *drawn) several(least, below int, draw func() string) string {
	var out []string
	for range least + d.next(below) {
		out = append(out, draw())
	}
	return strings.Join(out, " ")
}

func (d *drawn) expression(budget int) string {
	e := func() string { return d.expression(budget - 1) }
	pick := d.next(20)
	switch {
	case d.seldom():
		return d.of("()", "#(1)", "(if)", "(x . y)", "(let)", "(begin)", "(define x 1)", "if", "(quote)", "(lambda (x x) 1)", "(set! 1 2)", "(or . x)", "(m0 . 1)", "(lambda (x) (define y 1))")
	case budget <= 0 || pick < 2:
		return d.of(d.name(), d.name(), d.name(), "1", "\"s\"", "'z", "'(x . y)")
	case pick < 4:
		return "(if " + e() + " " + e() + d.of("", " "+e()) + ")"
	case pick < 6:
		return d.lambda(budget)
	case pick < 8:
		names := d.binders(d.next(3))
		var pairs []string
		for _, name := range names {
			pairs = append(pairs, "("+name+" "+e()+")")
		}
		return "(let (" + strings.Join(pairs, " ") + ") " + d.within(names, func() string { return d.body(budget - 1) }) + ")"
	case pick < 9:
		names := d.binders(1 + d.next(2))
		return d.within(names, func() string {
			var pairs []string
			for _, name := range names {
				pairs = append(pairs, "("+name+" "+e()+")")
			}
			return "(" + d.of("letrec*", "letrec", "let*") + " (" + strings.Join(pairs, " ") + ") " + d.body(budget-1) + ")"
		})
	case pick < 10:
		return "(begin " + d.several(1, 3, e) + ")"
	case pick < 11:
		return "(set! " + d.name() + " " + e() + ")"
	case pick < 13:
		return "(" + d.of("list", "car", d.name()) + " " + d.several(0, 3, e) + ")"
	case pick < 15:
		return d.ofBase(e)
	case pick < 16 && d.many != "":
		return "(list " + e() + " " + d.many + " ... " + e() + ")"
	}
	return d.use(budget)
}

func (d *drawn) ofBase(e func() string) string {
	switch d.next(6) {
	case 0:
		return "(or " + d.several(0, 4, e) + ")"
	case 1:
		return "(and " + d.several(0, 3, e) + ")"
	case 2:
		return "(cond (" + e() + " => " + e() + ") (" + e() + ") (else " + e() + "))"
	case 3:
		return "(case " + e() + " ((1 x) " + e() + ") (else " + e() + "))"
	case 4:
		return "(do ((x " + e() + " " + d.name() + ")) (" + e() + ") " + e() + ")"
	}
	return "(" + d.of("when ", "unless ") + e() + " " + d.several(1, 2, e) + ")"
}

func (d *drawn) lambda(budget int) string {
	names := d.binders(d.next(4))
	formals := "(" + strings.Join(names, " ") + ")"
	if len(names) > 1 && d.next(3) == 1 {
		formals = "(" + strings.Join(names[:len(names)-1], " ") + " . " + names[len(names)-1] + ")"
	}
	return "(lambda " + formals + " " + d.within(names, func() string { return d.body(budget - 1) }) + ")"
}

// body has definitions, and expressions behind them.
func (d *drawn) body(budget int) string {
	var out []string
	var names []string
	kept, macros := d.names, d.macros
	for range max(0, d.next(6)-3) {
		name := d.binder()
		if slices.Contains(names, name) && !d.seldom() {
			continue
		}
		names = append(names, name)
		d.names = append([]string{name}, d.names...)
		out = append(out, d.definition(name, budget-1))
	}
	for range 1 + d.next(2) {
		out = append(out, d.expression(budget-1))
	}
	if d.seldom() {
		slices.Reverse(out)
	}
	d.names, d.macros = kept, macros
	return strings.Join(out, " ")
}

func (d *drawn) definition(name string, budget int) string {
	switch d.next(7) {
	case 1:
		return "(define " + name + ")"
	case 2:
		return "(define (" + name + " a . b) " + d.within(strings.Fields("a b"), func() string { return d.body(budget) }) + ")"
	case 3:
		return "(begin (define " + name + " " + d.expression(budget) + "))"
	case 4:
		return d.use(budget)
	}
	return "(define " + name + " " + d.expression(budget) + ")"
}

// shape is a rule's pattern, its variables without and with an ellipsis, and uses that fit, with E for an expression and N for a name.
type shape struct {
	pattern, plain, many string
	fits                 []string
}

func shapes() []shape {
	return []shape{
		{"(_)", "", "", []string{""}},
		{"(_ p)", "p", "", []string{"N", "E"}},
		{"(_ p q)", "p q", "", []string{"N N", "N E", "E N"}},
		{"(_ p q ...)", "p", "q", []string{"N", "N E", "N N E", "E N"}},
		{"(_ (p q) ...)", "", "q", []string{"", "(N E)", "(N E) (N N)"}},
		{"(_ else p)", "p", "", []string{"else N", "else E"}},
		{"(_ p => q ...)", "p", "q", []string{"N => E", "E => N N"}},
		{"(_ if p . q)", "p", "", []string{"if N", "if N E"}},
		{"(_ t p)", "p", "", []string{"t N", "t E"}},
		{"(_ 1 p)", "p", "", []string{"1 N"}},
		{"(_ #(p q ...) _)", "p", "q", []string{"#(N) E", "#(N E N) 1"}},
		{"(_ (q ...) p)", "p", "q", []string{"(N E) N", "() N"}},
		{"(_ \"s\" (p (q ...)) ...)", "", "", []string{"\"s\" (N (E))", "\"s\""}},
	}
}

// use is one of a macro that is there, mostly one that fits.
func (d *drawn) use(budget int) string {
	if len(d.macros) == 0 {
		return d.name()
	}
	i := d.next(len(d.macros))
	of := d.macros[i][d.next(len(d.macros[i]))]
	text := "(m" + strconv.Itoa(i)
	for _, r := range d.of(append([]string{of.fits[0]}, of.fits...)...) {
		switch r {
		case 'N':
			text += d.of(" "+d.name(), " "+d.name(), " "+d.binder())
		case 'E':
			text += " " + d.expression(budget-1)
		default:
			text += string(r)
		}
		if text == "(m"+strconv.Itoa(i)+string(r) {
			text = text[:len(text)-1] + " " + string(r)
		}
	}
	return text + ")"
}

// macro defines the next one.
func (d *drawn) macro(budget int) string {
	all := shapes()
	text, count := "", 1+d.next(3)
	var made []shape
	for range count {
		of := all[d.next(len(all))]
		made = append(made, of)
		d.many = of.many
		plain := append(strings.Fields(of.plain), "x", "t")
		text += " (" + of.pattern + " " + d.within(plain, func() string { return d.template(of, budget) }) + ")"
		d.many = ""
	}
	d.macros = append(d.macros[:len(d.macros):len(d.macros)], made)
	return "(define-syntax m" + strconv.Itoa(len(d.macros)-1) + " (syntax-rules (" + d.of("else => if t", "else => if t", "else") + ")" + text + "))"
}

func (d *drawn) template(of shape, budget int) string {
	if of.plain == "" {
		return d.expression(budget)
	}
	e := d.expression(budget)
	switch d.next(12) {
	case 0:
		return "(let ((t p)) " + e + ")"
	case 1:
		return "(lambda (p) " + e + ")"
	case 2:
		return "(lambda (t p) (list t p " + e + "))"
	case 3:
		return "(begin (define p " + e + "))"
	case 4:
		return "(begin (define hidden 1) (define p (list hidden " + e + ")))"
	case 5:
		return "(begin (define t 1) (define-syntax p (syntax-rules () ((_ u (... ...)) (list u (... ...) t " + e + ")) ((_ . u) 'u))))"
	case 6:
		return "(letrec* ((p t) (t p)) " + e + ")"
	case 7:
		return "(quote (p t #(x p)))"
	case 8:
		return "(let ((p 1)) (define t p) (define-syntax k (syntax-rules (p t) ((_ p) 'p) ((_ t) 't) ((_ _) 'other))) (list (k p) (k t) (k x) " + e + "))"
	}
	return e
}

func (d *drawn) topForm() string {
	name := "top" + strconv.Itoa(d.tops)
	switch d.next(8) {
	case 0, 1:
		d.tops++
		d.names = append([]string{name}, d.names...)
		return d.definition(name, 3)
	case 2, 3, 4:
		return d.macro(3)
	case 5:
		return d.use(3)
	}
	return d.expression(4)
}

func (d *drawn) program() string {
	return d.several(1, 6, d.topForm)
}

// tally counts what came of calls, so that a test sees that all of it was drawn.
type tally map[string]int

// step expands some programs in one scope, some of which fail.
func (all tally) step(t *testing.T, data []byte) {
	t.Helper()
	d := &drawn{bytes: data[:min(len(data), 600)], names: strings.Fields("x y z car")}
	s, m := scope(t), aModel()
	text := "(define x 1) (define y 2) (define z 3)"
	for range 4 {
		forms := read(text)
		want, place, e := m.plainForms(forms)
		if e == givenUp {
			return
		}
		got, at, f := s.Forms(forms)
		all["error "+strconv.Itoa(int(e))]++
		all["uses"] += m.uses
		if e == api.OK {
			all["cores"] += len(want)
			place = 0
		}
		if e != f || place != at || !alikeCores(got, want) {
			t.Errorf("%s:\nanswers %s, error %d at %d\nmodel   %s, error %d at %d", text, toldAll(got), f, at, toldAll(want), e, place)
			return
		}
		text = d.program()
	}
}

// P19.1 to P19.3, P4: drawn programs come to what the tests' own expander makes of them.
func TestDrawn(t *testing.T) {
	r := rand.New(rand.NewSource(19))
	all := tally{}
	for range 1200 {
		data := make([]byte, 600)
		r.Read(data)
		all.step(t, data)
		if t.Failed() {
			return
		}
	}
	for _, outcome := range []string{"error 0", "error 12", "error 13", "uses", "cores"} {
		if all[outcome] < 20 {
			t.Errorf("%s was drawn %d times alone", outcome, all[outcome])
		}
	}
	t.Log(all)
}

func FuzzPrograms(f *testing.F) {
	r := rand.New(rand.NewSource(91))
	for range 5 {
		data := make([]byte, 500)
		r.Read(data)
		f.Add(data)
	}
	f.Fuzz(func(t *testing.T, data []byte) { tally{}.step(t, data) })
}
