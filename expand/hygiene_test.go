package expand

import (
	"regexp"
	"slices"
	"strings"
	"testing"

	"sextant/api"
)

// P4: the names that a macro lays down and those of its user are apart, whichever they are.
func TestNamesAreApart(t *testing.T) {
	gives(t, "(lambda (t) (or 1 t)) (lambda (t) (or t 1 t))", "(lambda (#1:t) (call (lambda (#2:t) (if #2:t #2:t #1:t)) '1)) (lambda (#3:t) (call (lambda (#4:t) (if #4:t #4:t (call (lambda (#5:t) (if #5:t #5:t #3:t)) '1))) #3:t))")
	gives(t, "(lambda (if let t) (or if let))", "(lambda (#1:if #2:let #3:t) (call (lambda (#4:t) (if #4:t #4:t #2:let)) #1:if))")
	gives(t, "(define-syntax m (syntax-rules () ((_ a) (lambda (x) (lambda (a) (list x a)))))) (m x) (m y) (lambda (x) (m x))", "(lambda (#1:x) (lambda (#2:x) (call list #1:x #2:x))) (lambda (#3:x) (lambda (#4:y) (call list #3:x #4:y))) (lambda (#5:x) (lambda (#6:x) (lambda (#7:x) (call list #6:x #7:x))))")
	gives(t, "(define-syntax m (syntax-rules () ((_ a) (lambda (a x) (list a x))))) (m x) (m list)", "(lambda (#1:x #2:x) (call list #1:x #2:x)) (lambda (#3:list #4:x) (call list #3:list #4:x))")
	refuses(t, "(define-syntax m (syntax-rules () ((_ a) (lambda (a x a) 1)))) (m x)", api.ErrForms, 1)
	refuses(t, "(define-syntax m (syntax-rules () ((_ a) (lambda (x a x) 1)))) (m y)", api.ErrForms, 1)
	gives(t, "(define-syntax m (syntax-rules () ((_ a) (letrec* ((a 1) (x a)) (list a x))))) (m x)", "(letrec (#1:x #2:x) '1 #1:x (call list #1:x #2:x))")
	gives(t, "(define-syntax m (syntax-rules () ((_ a b) (lambda () (define a 1) (define x b) (list x a))))) (m x x)", "(lambda () (letrec (#1:x #2:x) '1 #1:x (call list #2:x #1:x)))")
}

// P4: a use has aliases of its own, the same for the same name.
func TestAliasesOfUses(t *testing.T) {
	gives(t, "(define-syntax let2 (syntax-rules () ((_ a b c) (let ((a 1)) (let ((b 2)) c))))) (define-syntax m (syntax-rules () ((_ e) (let2 x y (list x y e))))) (lambda (x y) (m (m (list x y))))",
		"(lambda (#1:x #2:y) (call (lambda (#3:x) (call (lambda (#4:y) (call list #3:x #4:y (call (lambda (#5:x) (call (lambda (#6:y) (call list #5:x #6:y (call list #1:x #2:y))) '2)) '1))) '2)) '1))")
	gives(t, "(define-syntax m (syntax-rules () ((_ (v ...) e f ...) (lambda (v ...) e f ...)) ((_ (v ...)) (m (v ...) v ...)))) (m (a b)) (m (x x1) x)", "(lambda (#1:a #2:b) (seq #1:a #2:b)) (lambda (#3:x #4:x1) #3:x)")
	gives(t, "(define-syntax temps (syntax-rules () ((_ () (v ...) e) (lambda (v ...) (list e v ...))) ((_ (a b ...) (v ...) e) (temps (b ...) (v ... t) e)))) (lambda (t) (temps (1 2 3) () t))",
		"(lambda (#1:t) (lambda (#2:t #3:t #4:t) (call list #1:t #2:t #3:t #4:t)))")
	refuses(t, "(define-syntax m (syntax-rules () ((_) (lambda (t t) 1)))) (m)", api.ErrForms, 1)
	refuses(t, "(define-syntax m (syntax-rules () ((_) (lambda (t) (define t2 1) (define t2 2) t)))) (m)", api.ErrForms, 1)
}

// P4, P19.3: what a macro defines at the top by a name of its own has a number, and is seen by that use alone.
func TestHiddenDefinitions(t *testing.T) {
	gives(t, "(define-syntax def (syntax-rules () ((_ n) (begin (define n 1) (define hidden n))))) (def q) (let () (def r) r)", "(define #1/q '1) (define #1:hidden #1/q) (call (lambda () (letrec (#2:r #3:hidden) '1 #2:r #2:r)))")
	gives(t, "(define-syntax cell (syntax-rules () ((_ get put) (begin (define place 0) (define (get) place) (define (put x) (set! place x)))))) (cell a b) (cell c d) (define place 5) place",
		"(define #1:place '0) (define #1/a (lambda () #1:place)) (define #1/b (lambda (#3:x) (set #1:place #3:x))) (define #2:place '0) (define #1/c (lambda () #2:place)) (define #1/d (lambda (#4:x) (set #2:place #4:x))) (define #1/place '5) #1/place")
	refuses(t, "(define-syntax def (syntax-rules () ((_) (define hidden 1)))) (def) hidden", api.ErrBound, 2)
	refuses(t, "(define-syntax def (syntax-rules () ((_) (begin (define hidden 1) (define hidden 2))))) (def)", api.ErrForms, 1)
	refuses(t, "(define-syntax def (syntax-rules () ((_ n) (begin (define n 1) (define hidden 1) (define n 2))))) (def hidden)", api.ErrForms, 1)
	gives(t, "(define-syntax def (syntax-rules () ((_ n) (begin (define n 1) (define hidden 2) (list n hidden))))) (def hidden) hidden", "(define #1/hidden '1) (define #1:hidden '2) (call list #1/hidden #1:hidden) #1/hidden")
	gives(t, "(define-syntax def (syntax-rules () ((_ n) (begin (define-syntax hidden (syntax-rules () ((_) 5))) (define n (hidden)))))) (def a) (lambda () (def hidden) hidden)", "(define #1/a '5) (lambda () (letrec (#1:hidden) '5 #1:hidden))")
	gives(t, "(define-syntax def (syntax-rules () ((_ m) (begin (define hidden 1) (define-syntax m (syntax-rules () ((_) hidden) ((_ v) (set! hidden v)))))))) (def m) (m) (lambda (hidden) (m hidden)) (def n) (n) (m)",
		"(define #1:hidden '1) #1:hidden (lambda (#3:hidden) (set #1:hidden #3:hidden)) (define #2:hidden '1) #2:hidden #1:hidden")
	s := scope(t)
	adds(t, s, "(define-syntax def (syntax-rules () ((_ m) (begin (define hidden 1) (define-syntax m (syntax-rules () ((_) hidden))))))) (def m)", "(define #1:hidden '1)")
	adds(t, s, "(def n) (m) (n)", "(define #2:hidden '1) #1:hidden #2:hidden")
}

// P4: free names of a template mean what they mean where the macro was defined.
func TestFreeNames(t *testing.T) {
	gives(t, "(define x 1) (define-syntax m (syntax-rules () ((_) x))) (lambda (x) (m))", "(define #1/x '1) (lambda (#1:x) #1/x)")
	gives(t, "(define-syntax m (syntax-rules () ((_) x))) (lambda (x) (m)) (define x 1)", "(lambda (#1:x) #1/x) (define #1/x '1)")
	refuses(t, "(define-syntax m (syntax-rules () ((_) x))) (lambda (x) (m))", api.ErrBound, 1)
	gives(t, "(lambda (x) (define-syntax m (syntax-rules () ((_) x))) (lambda (x) (define-syntax n (syntax-rules () ((_) (list x (m))))) (lambda (x) (list x (m) (n)))))", "(lambda (#1:x) (lambda (#2:x) (lambda (#3:x) (call list #3:x #1:x (call list #2:x #1:x)))))")
	gives(t, "(lambda (car) (define-syntax m (syntax-rules () ((_ a) (car a)))) (lambda (m2 car) (m car)))", "(lambda (#1:car) (lambda (#2:m2 #3:car) (call #1:car #3:car)))")
	gives(t, "(define-syntax a (syntax-rules () ((_ v) (b v)))) (define-syntax b (syntax-rules () ((_ v) (let ((x 1)) (list x v))))) (lambda (x b) (a (list x b)))", "(lambda (#1:x #2:b) (call (lambda (#3:x) (call list #3:x (call list #1:x #2:b))) '1))")
	gives(t, "(define-syntax m (syntax-rules () ((_ n) (let ((n 1)) (m2 n))))) (define-syntax m2 (syntax-rules () ((_ n) (let ((t 2)) (list t n))))) (m t)", "(call (lambda (#1:t) (call (lambda (#2:t) (call list #2:t #1:t)) '2)) '1)")
}

// P4, P19.3: what is quoted has its base, however often it has been through macros.
func TestQuotedAliases(t *testing.T) {
	gives(t, "(define-syntax q (syntax-rules () ((_ a ...) (quote (a ... x #(y (z . w)) \"s\"))))) (define-syntax r (syntax-rules () ((_ a ...) (q a ... inner)))) (q) (q a) (r (b) outer)",
		"'(x #(y (z . w)) \"s\") '(a x #(y (z . w)) \"s\") '((b) outer inner x #(y (z . w)) \"s\")")
	gives(t, "(define-syntax q (syntax-rules () ((_ a) (let ((x 1)) '(x a))))) (lambda (x) (q x)) (case 'a ((a b) 'c))", "(lambda (#1:x) (call (lambda (#2:x) '(x x)) '1)) (call (lambda (#3:t) (if (call memv #3:t '(a b)) 'c '#<void>)) 'a)")
	gives(t, "(define-syntax m (syntax-rules () ((_ n (a ...)) (define-syntax n (syntax-rules () ((_ b) '(a ... b other))))))) (m f (x y)) (f z)", "'(x y z other)")
}

var localNames = regexp.MustCompile(`(#[0-9]+:)[^ )]*`)

// nameless is a text of cores with the numbers of its locals alone, and V for one name at the top.
func nameless(list []api.Core, name string) string {
	text := localNames.ReplaceAllString(toldAll(list), "$1")
	return regexp.MustCompile(`(#1/)`+regexp.QuoteMeta(name)+`([ )]|$)`).ReplaceAllString(text, "${1}V$2")
}

// mentions: does a symbol stand in a datum?
func mentions(d api.Datum, name string) bool {
	return d.Kind == api.Symbol && d.Text == name || slices.ContainsFunc(d.List, func(item api.Datum) bool { return mentions(item, name) })
}

// renamed is a datum with one symbol for another.
func renamed(d api.Datum, from, to string) api.Datum {
	if d.Kind == api.Symbol && d.Text == from {
		d.Text = to
	}
	items := d.List
	d.List = nil
	for _, item := range items {
		d.List = append(d.List, renamed(item, from, to))
	}
	return d
}

// P4: a name V that a program binds may be any that it does not speak of itself: that of a keyword, of a macro, of a name that a macro lays down, or of a procedure that it uses.
func TestRenaming(t *testing.T) {
	for _, program := range []string{
		"(lambda (V) (or V 1 V 2))", "(lambda (u V) (and u V u))", "(lambda (V) (let ((u V)) (or u V)))", "(lambda (V u) (let* ((u V) (w u)) (or V u w)))", "(lambda (u) (let V ((w u)) (or w (V w))))", "(lambda (u) (letrec ((V u) (w V)) (when V u w)))", "(lambda (V) (unless V V V))",
		"(lambda (V u) (cond (u => V) (V) (u V u) (else V)))", "(lambda (V) (cond ((or 1 V) => V) (2)))", "(lambda (V) (case V ((1 2) V) ((q) 3) (else V V)))", "(lambda (V u) (do ((w V u) (ww u V)) ((or w V) ww) V w))", "(lambda (u) (do ((V u V)) (V) V))",
		"(lambda (u V) (receive (w . ww) V V u w V))", "(lambda (u) (receive V u V))", "(lambda (u) (guard (V ((u V) V) (u => V)) (u u)))", "(lambda (V) (guard (u ((V u) V) (else u)) (V V)))", "(lambda (V u) (guard (w (V w)) V u))",
		"(lambda (u) (define V u) (define (w V) (or V u)) (or V w))", "(lambda (u) (letrec* ((V u) (w V)) (or w V)))",
		"(define-syntax swap (syntax-rules () ((_ a b) (let ((tmp a)) (set! a b) (set! b tmp))))) (lambda (V u) (swap V u) (swap u V) V)",
		"(define-syntax each (syntax-rules () ((_ (v ...) e ...) (let loop ((v 1) ...) e ... (loop v ...))))) (lambda (u) (each (V u) (or V u) V))",
		"(define-syntax bind (syntax-rules () ((_ n e b) ((lambda (n) b) e)))) (bind V 1 (bind u V (or (bind w u (list w u V)) V)))",
		"(define-syntax get (syntax-rules () ((_ n) (define-syntax n (syntax-rules () ((_ a) (let ((x 1)) (list x a)))))))) (lambda (V) (get u) (or (u V) V))",
	} {
		keepsMeaning(t, program, true)
	}
	for _, program := range []string{
		"(define V 5) (define (u w) (or V w)) (or V u)", "(define (V u . w) (or (V u) w))",
		"(define-syntax def (syntax-rules () ((_ n e) (begin (define hidden e) (define (n) (list hidden)))))) (def V 1) (def u V) (lambda () (def V V) (def w V) (or V w))",
		"(define-record-type u (V uf) u? (uf uV)) (or V u)", "(define-record-type u (w uf ug) V (uf ww) (ug uV www)) (or V uV)", "(define-record-type u (w uf) u? (uf ww V)) (or V ww)",
	} {
		keepsMeaning(t, program, false)
	}
}

// keepsMeaning: a program comes to the same whatever V is. At the top it is no name that the scope has.
func keepsMeaning(t *testing.T, program string, inside bool) {
	t.Helper()
	forms, taken := read(program), scope(t).Names()
	cores, _, e := scope(t).Forms(renamedAll(forms, "quite-new"))
	if e != api.OK {
		t.Fatalf("%s: error %d", program, e)
	}
	want := nameless(cores, "quite-new")
	for _, name := range strings.Fields(chapterKeywords + " " + preludeMacros + " " + preludeProcedures + " cons car cdr apply memv call/cc call-with-values with-exception-handler raise-continuable values make-rtd record-accessor + else => ... _ x e b y z f g k h r s t c d a i l p n m v loop name more tmp hidden") {
		if mentions(list(forms...), name) || !inside && slices.Contains(taken, name) {
			continue
		}
		cores, at, e := scope(t).Forms(renamedAll(forms, name))
		if got := nameless(cores, name); e != api.OK || got != want {
			t.Errorf("%s with %s: error %d at %d\ngot  %s\nwant %s", program, name, e, at, got, want)
		}
	}
}

func renamedAll(forms []api.Datum, name string) []api.Datum {
	return renamed(vectorDatum(forms...), "V", name).List
}
