package expand

import (
	"slices"
	"strconv"
	"strings"
	"testing"

	"sextant/api"
)

// filled is a scope that has bound so many locals.
func filled(t *testing.T, count int) *Scope {
	t.Helper()
	s := scope(t)
	for count > 0 {
		some := min(count, 9000)
		var names []api.Datum
		for i := range some {
			names = append(names, sym("x"+strconv.Itoa(i)))
		}
		if _, _, e := s.Forms([]api.Datum{list(sym("lambda"), list(names...), one("1"))}); e != api.OK {
			t.Fatalf("error %d with %d left", e, count)
		}
		count -= some
	}
	return s
}

// P19.3: as many locals as a scope may bind, by each kind of binding, and one more; the names of the top are not counted.
func TestMostLocals(t *testing.T) {
	s := filled(t, mostLocals-2)
	adds(t, s, "(define-syntax def (syntax-rules () ((_) (define hidden 1)) ((_ n) (begin (def) (define n 1)))))", "")
	fails(t, s, read("1 (lambda (a b c) 1)"), api.ErrLarge, 1)
	fails(t, s, read("(lambda (a b . c) 1)"), api.ErrLarge, 0)
	fails(t, s, read("(letrec* ((a 1) (b 2) (c 3)) 1)"), api.ErrLarge, 0)
	fails(t, s, read("(lambda (a) (define b 1) (define c 2) (foo) (if))"), api.ErrLarge, 0)
	fails(t, s, read("(def) (begin (def) (def)) (foo)"), api.ErrLarge, 1)
	fails(t, s, read("(lambda (a) (lambda (b) (lambda c (foo)))) (foo)"), api.ErrLarge, 0)
	fails(t, s, read("(lambda (a b a) 1)"), api.ErrForms, 0)
	fails(t, s, read("(lambda (a b) (foo) (lambda (c) 1))"), api.ErrBound, 0)
	fails(t, s, read("(lambda () (define a 1) (define b 1) (define b 2) b)"), api.ErrForms, 0)
	fails(t, s, read("(define z 1) (lambda (a b) a) (lambda (c) c)"), api.ErrLarge, 2)
	adds(t, s, "(lambda (a) a)", "(lambda (#99999:a) #99999:a)")
	fails(t, s, read("(def) (def)"), api.ErrLarge, 1)
	adds(t, s, "(def)", "(define #100000:hidden '1)")
	fails(t, s, read("(lambda (a) a)"), api.ErrLarge, 0)
	fails(t, s, read("(lambda a a)"), api.ErrLarge, 0)
	fails(t, s, read("(letrec* ((a 1)) a)"), api.ErrLarge, 0)
	fails(t, s, read("(lambda (a a) 1)"), api.ErrForms, 0) // no lambda, so nothing is bound
	fails(t, s, read("(lambda (a 5) 1)"), api.ErrForms, 0)
	fails(t, s, read("(letrec* ((a 1) (a 2)) a)"), api.ErrForms, 0)
	fails(t, s, read("(letrec* ((a 1) (b)) a)"), api.ErrForms, 0)
	fails(t, s, read("(lambda () (define a 1) a)"), api.ErrLarge, 0)
	fails(t, s, read("(def)"), api.ErrLarge, 0)
	fails(t, s, read("(or 1 2)"), api.ErrLarge, 0)
	adds(t, s, "(define z 1) (lambda () (define-syntax m (syntax-rules () ((_ a) (quote a)))) (letrec* () (m z)))", "(define #1/z '1) (lambda () (letrec () 'z))")
	hasNames(t, s, slices.Sorted(slices.Values(append(aBase().Names(), "def", "z")))...)
	base, _ := Base()
	adds(t, scope(t), "(lambda (a) a)", "(lambda (#1:a) #1:a)")
	fails(t, base, read("(lambda (a) b)"), api.ErrBound, 0)
}

// P19.3: more names at the top than there may be locals.
func TestManyTopNames(t *testing.T) {
	s := scope(t)
	var forms []api.Datum
	for i := range mostLocals + 1 {
		forms = append(forms, list(sym("define"), sym("x"+strconv.Itoa(i)), one("1")))
	}
	got, at, e := s.Forms(forms)
	if e != api.OK || at != 0 || len(got) != mostLocals+1 || got[mostLocals].Name != "#1/x100000" {
		t.Fatalf("%d cores, error %d at %d", len(got), e, at)
	}
	adds(t, s, "(lambda (a) x7)", "(lambda (#1:a) #1/x7)")
}

// P19.3: as many uses in one call as there may be, and one more, wherever they stand.
func TestMostUses(t *testing.T) {
	s := scope(t)
	adds(t, s, "(define-syntax m (syntax-rules () ((_) 1) ((_ d) (define d 1)))) (define-syntax n (syntax-rules () ((_ a ...) (begin a ... (m)))))", "")
	uses := times(one("(m)"), mostUses)
	for range 2 { // each call counts its own
		if got, at, e := s.Forms(uses); e != api.OK || at != 0 || len(got) != mostUses {
			t.Errorf("%d cores, error %d at %d", len(got), e, at)
		}
	}
	fails(t, s, append(uses, one("(m)")), api.ErrLarge, mostUses)
	fails(t, s, append(uses[:mostUses:mostUses], one("(m x)")), api.ErrLarge, mostUses)
	fails(t, s, append(uses[:mostUses:mostUses], one("(car (m))")), api.ErrLarge, mostUses)
	fails(t, s, append(uses[:mostUses-1:mostUses-1], one("(n)")), api.ErrLarge, mostUses-1)
	fails(t, s, append(uses[:mostUses-1:mostUses-1], one("(car (n))")), api.ErrLarge, mostUses-1)
	fails(t, s, append(uses[:mostUses:mostUses], one("(lambda () (define x 1) (m) x)")), api.ErrLarge, mostUses)
	fails(t, s, append(uses[:mostUses:mostUses], one("(foo)"), one("(lambda () (m))")), api.ErrBound, mostUses)
	for _, last := range []string{"(n)", "(car (n))", "(lambda () (n))", "(list (m) (m))"} {
		if got, at, e := s.Forms(append(uses[:mostUses-2:mostUses-2], one(last))); e != api.OK || at != 0 || len(got) != mostUses-1 {
			t.Errorf("%s: %d cores, error %d at %d", last, len(got), e, at)
		}
	}
	inside := times(list(append(read("list"), uses[:mostUses/5]...)...), 5)
	if _, _, e := s.Forms(inside); e != api.OK {
		t.Errorf("uses inside: error %d", e)
	}
	fails(t, s, append(inside, one("(m)")), api.ErrLarge, 4) // the one at the top has come ahead of all that are inside
	fails(t, s, append(inside, one("(list (m))")), api.ErrLarge, 5)
}

// P19.3: uses that never end.
func TestEndlessUses(t *testing.T) {
	for _, template := range []string{
		"(m)", "(list (m))", "(begin (m) (m))", "(begin (m))", "(lambda (x) (m))", "(lambda (x) (define y 1) (m))", "(if 1 (m))", "(letrec* ((x (m))) x)", "(let ((x (m))) x)", "(let ((x 1)) (m))", "(or (m) 1)", "((m))", "(lambda () (begin (m)))", "(begin (define x 1) (m))", "(begin (define (x) (m)) 1)", "(begin (define-syntax x (syntax-rules ())) (m))",
	} {
		s := scope(t)
		fails(t, s, read("1 (define-syntax m (syntax-rules () ((_) "+template+"))) (m)"), api.ErrLarge, 2)
		fails(t, s, read("1 (define-syntax m (syntax-rules () ((_) "+template+"))) (lambda (a) (m))"), api.ErrLarge, 2)
		adds(t, s, "(lambda (probe) probe)", "(lambda (#1:probe) #1:probe)")
	}
}

// P19.3: outcomes of just as many nodes as there may be, and of one more.
func TestLargeOutcomes(t *testing.T) {
	s := scope(t)
	adds(t, s, "(define-syntax v (syntax-rules () ((_ #(a ...) b) '#(a ... b b b b)))) (define-syntax l (syntax-rules () ((_ a ...) '(a ...)))) (define-syntax d (syntax-rules () ((_ a) '(a a))))", "")
	items := times(one("1"), mostNodes)
	for count, want := range map[int]api.Errno{mostNodes - 9: api.OK, mostNodes - 8: api.ErrLarge} { // (quote #( .. )): five nodes, and four more of b
		got, at, e := s.Forms([]api.Datum{list(sym("v"), vectorDatum(items[:count]...), items[0])})
		if e != want || at != 0 || want == api.OK && (len(got) != 1 || len(got[0].Value.List) != count+4) {
			t.Errorf("%d items: %d cores, error %d; want error %d", count, len(got), e, want)
		}
	}
	row := list(append([]api.Datum{sym("l")}, items[:9997]...)...)
	if _, _, e := s.Forms([]api.Datum{row}); e != api.OK {
		t.Errorf("list: error %d", e)
	}
	row = list(append([]api.Datum{sym("l")}, items[:9998]...)...)
	fails(t, s, []api.Datum{one("1"), row}, api.ErrLarge, 1)
	double := list(sym("d"), vectorDatum(items[:9994]...))
	if _, _, e := s.Forms([]api.Datum{double}); e != api.OK {
		t.Errorf("twice: error %d", e)
	}
	if _, _, e := s.Forms([]api.Datum{list(sym("d"), list(items[:4997]...))}); e != api.OK {
		t.Errorf("a list twice: error %d", e)
	}
	fails(t, s, []api.Datum{list(sym("d"), vectorDatum(items[:9996]...))}, api.ErrLarge, 0)
	fails(t, s, []api.Datum{list(sym("d"), list(items[:4998]...))}, api.ErrLarge, 0)
	fails(t, s, []api.Datum{list(sym("list"), list(sym("d"), vectorDatum(items[:9996]...)))}, api.ErrLarge, 0)
}

// P19.3: outcomes as deep as they may be, and deeper.
func TestDeepOutcomes(t *testing.T) {
	s := scope(t)
	adds(t, s, "(define-syntax v (syntax-rules () ((_ a) '#(a)))) (define-syntax p (syntax-rules () ((_ a) '(1 . a)))) (define-syntax q (syntax-rules () ((_ a) 'a))) (define-syntax w (syntax-rules () ((_ a) '#(#((a))))))", "")
	for _, of := range []struct {
		name   string
		around int // levels around what is handed in
	}{{"v", 2}, {"p", 1}, {"q", 1}} {
		form := func(levels int) api.Datum { return list(sym(of.name), nested(one("1"), levels)) }
		if _, _, e := s.Forms([]api.Datum{form(deepest - 1 - of.around)}); e != api.OK {
			t.Errorf("%s: error %d", of.name, e)
		}
		if of.around == 2 { // else the form itself is too deep
			fails(t, s, []api.Datum{form(deepest - of.around)}, api.ErrLarge, 0)
		}
	}
	for _, open := range []string{"car", "lambda ()"} {
		around := func(levels int) []api.Datum {
			return []api.Datum{list(append(read(open), list(sym("w"), nested(one("1"), levels)))...)}
		}
		if _, _, e := s.Forms(around(deepest - 5)); e != api.OK {
			t.Errorf("%s: error %d", open, e)
		}
		fails(t, s, around(deepest-4), api.ErrLarge, 0)
	}
}

// P19.3: uses whose outcomes grow till they are too deep or have too many nodes.
func TestGrowingOutcomes(t *testing.T) {
	for _, rule := range []string{"(_ a) (m (a))", "(_ a) (m #(a))", "(_ a ...) (m a ... a ...)", "(_ a ...) (m 1 2 3 4 5 6 7 8 9 a ...)", "(_ a) (m (a . a))", "(_ . a) (list (m a . a))", "(_ a) (begin (m (a)))"} {
		refuses(t, "1 (define-syntax m (syntax-rules () ("+rule+"))) (m 1)", api.ErrLarge, 2)
		refuses(t, "1 (define-syntax m (syntax-rules () ("+rule+"))) (lambda () (car (m 1)))", api.ErrLarge, 2)
	}
}

// P19.3: in an outcome nodes are laid down from the left, so that it hangs on what stands there which error is met first.
func TestOrderInOutcomes(t *testing.T) {
	large := vectorDatum(times(one("1"), mostNodes-10)...)
	for template, want := range map[string]api.Errno{
		"'(a a (x ...))": api.ErrLarge, "'((x ...) a a)": api.ErrForms, "'(a (x ...) a)": api.ErrForms, "'(a a a)": api.ErrLarge, "'(a b (x ...))": api.ErrForms, "'(#(a a) . ...)": api.ErrLarge, "'(b ...)": api.ErrForms, "'(a . a)": api.ErrLarge,
	} {
		s := scope(t)
		adds(t, s, "(define-syntax m (syntax-rules () ((_ a b) "+template+")))", "")
		fails(t, s, []api.Datum{list(sym("m"), large, one("1"))}, want, 0)
	}
}

// deepOf is how many cores stand in one another.
func deepOf(c api.Core) int {
	levels := 0
	for ; len(c.Args) > 0; levels++ {
		c = c.Args[len(c.Args)-1]
	}
	return levels
}

// R1, R8: what macros nest is far deeper than any datum.
func TestDeepCores(t *testing.T) {
	const count = 1500
	steps := strings.Repeat(" 1", count)
	for _, of := range []struct {
		open  string
		close string
		each  int
	}{
		{"(list ", ")", 1}, {"(lambda (x) ", ")", 1}, {"(list (list (list (list ", "))))", 4}, {"(lambda () (if x 1 ", "))", 2}, {"(letrec* ((x 1)) ", ")", 1}, {"(lambda () (define y 1) ", ")", 2}, {"(set! x ", ")", 1},
	} {
		program := "(define-syntax m (syntax-rules () ((_) 5) ((_ a b ...) " + of.open + "(m b ...)" + of.close + "))) (define x 1) (m" + steps + ")"
		got, at, e := scope(t).Forms(read(program))
		if e != api.OK || at != 0 || len(got) != 2 || deepOf(got[1]) != of.each*count {
			t.Errorf("%s: %d cores, error %d at %d", of.open, len(got), e, at)
		}
	}
	open, end := strings.Repeat("(list ", 20), strings.Repeat(")", 20)
	fails(t, scope(t), read("(define-syntax m (syntax-rules () ((_) "+open+"(m)"+end+"))) (m)"), api.ErrLarge, 1)
}

// R8: what macros quote on the way to an error, and what variables could have matched in all, is far more than there is room for.
func TestFarTooMuch(t *testing.T) {
	large := vectorDatum(times(one("\"text\""), mostNodes-20)...)
	fails(t, scope(t), []api.Datum{one("(define-syntax m (syntax-rules () ((_ a) (list 'a (m a)))))"), list(sym("m"), large)}, api.ErrLarge, 1)
	var names []api.Datum
	for i := range 4999 {
		names = append(names, sym("v"+strconv.Itoa(i)))
	}
	pattern := list(sym("_"), list(list(names...), sym("...")), sym("..."))
	macro := list(sym("define-syntax"), sym("m"), list(sym("syntax-rules"), empty(), list(pattern, one("'(v1 ... ... #(v2 ... ...))"))))
	use := list(append(read("m"), times(empty(), 9000)...)...)
	list, at, e := scope(t).Forms([]api.Datum{macro, use})
	if e != api.OK || at != 0 || toldAll(list) != "'(#())" {
		t.Errorf("%d cores, error %d at %d", len(list), e, at)
	}
}
