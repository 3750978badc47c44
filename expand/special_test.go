package expand

import (
	"testing"

	"sextant/api"
)

// The chapter's examples.
func TestExamples(t *testing.T) {
	gives(t, "(define (f x . y) x)", "(define #1/f (lambda (#1:x . #2:y) #1:x))")
	gives(t, "(let ((x 1)) x)", "(call (lambda (#1:x) #1:x) '1)")
	gives(t, "(define-syntax swap (syntax-rules () ((_ a b) (let ((t a)) (set! a b) (set! b t))))) (let ((t 1) (u 2)) (swap t u) t)",
		"(call (lambda (#1:t #2:u) (seq (call (lambda (#3:t) (seq (set #1:t #2:u) (set #2:u #3:t))) #1:t) #1:t)) '1 '2)")
	gives(t, "(let ((if list)) (if 1 2 3))", "(call (lambda (#1:if) (call #1:if '1 '2 '3)) list)")
	refuses(t, "(define car 1)", api.ErrForms, 0)
	refuses(t, "(foo)", api.ErrBound, 0)
	refuses(t, "(lambda (x x) x)", api.ErrForms, 0)
	refuses(t, "()", api.ErrForms, 0)
	gives(t, "(lambda (x) (define x) x)", "(lambda (#1:x) (letrec (#2:x) '#<void> #2:x))")
	refuses(t, "(let () (define x 1))", api.ErrForms, 0)
}

// P19.3: the data that stand for themselves, as large as they may be, and those that do not.
func TestConstants(t *testing.T) {
	gives(t, `#t #f 0 -7 1/3 1+2/3i #\a #\x0 "" "a\né" #vu8() #vu8(0 255)`, `'#t '#f '0 '-7 '1/3 '1+2/3i '#\a '#\nul '"" '"a\né" '#vu8() '#vu8(0 255)`)
	gives(t, `(lambda () "a" 1 #vu8(2))`, `(lambda () (seq '"a" '1 '#vu8(2)))`)
	refusesEach(t, "() #() #(1) #(a) #(())", api.ErrForms)
	for _, d := range []api.Datum{{Kind: api.Void}, {Kind: api.Other, Text: "procedure"}, {Kind: api.Other}} {
		fails(t, scope(t), []api.Datum{d}, api.ErrForms, 0)
		fails(t, scope(t), []api.Datum{list(sym("car"), d)}, api.ErrForms, 0)
		list, at, e := scope(t).Forms([]api.Datum{list(sym("quote"), d)})
		if e != api.OK || at != 0 || !alikeCores(list, []api.Core{{Op: api.Const, Value: d}}) {
			t.Errorf("quoted: %s, error %d", toldAll(list), e)
		}
	}
}

// P19.3: what is quoted is anything.
func TestQuote(t *testing.T) {
	gives(t, "'a 'if '() '(a . b) '#(a (b . #(c)) \"s\") '(quote x) ''x '1 '#\\a '... '_", "'a 'if '() '(a . b) '#(a (b . #(c)) \"s\") ''x ''x '1 '#\\a '... '_")
	gives(t, "(quote (lambda (x x) . 5)) (quote nobody)", "'(lambda (x x) . 5) 'nobody")
	refusesEach(t, "(quote) (quote a b) (quote . a) (quote a . b)", api.ErrForms)
	whole := list(sym("quote"), list(times(sym("a"), mostNodes/2-3)...))
	cores, _, e := scope(t).Forms([]api.Datum{whole, list(sym("quote"), nested(one("1"), deepest-2))})
	if e != api.OK || len(cores) != 2 || !alike(cores[0].Value, whole.List[1].List[0]) || !alike(cores[1].Value, nested(one("1"), deepest-2)) {
		t.Errorf("large and deep: %d cores, error %d", len(cores), e)
	}
}

// P19.3: variables by their names, with what they mean in the scope.
func TestVariables(t *testing.T) {
	gives(t, "car list call/cc (lambda (car) car)", "car list call/cc (lambda (#1:car) #1:car)")
	gives(t, "(lambda (x) (lambda (y) x) (lambda (x) x))", "(lambda (#1:x) (seq (lambda (#2:y) #1:x) (lambda (#3:x) #3:x)))")
	refusesEach(t, "nobody ... _ (nobody) (car nobody) ((lambda (x) x) x) (if nobody 1 2) (if 1 nobody 2) (if 1 2 nobody) (begin 1 nobody) (letrec* ((a nobody)) 1) (letrec* ((a 1)) b) (lambda () nobody)", api.ErrBound)
	refusesEach(t, "if quote set! begin lambda letrec* define define-syntax syntax-rules let cond (car if) (car let) (if let 1 2) ((if) 1) (set! car define)", api.ErrForms)
}

// P19.3: if, with and without a third.
func TestIf(t *testing.T) {
	gives(t, "(if 1 2 3) (if car cdr) (if (if 1 2) (if 3 4 5) 6)", "(if '1 '2 '3) (if car cdr '#<void>) (if (if '1 '2 '#<void>) (if '3 '4 '5) '6)")
	refusesEach(t, "(if) (if 1) (if 1 2 3 4) (if . 1) (if 1 . 2) (if 1 2 . 3) (if 1 2 3 . 4)", api.ErrForms)
}

// P19.3: set!, of a variable that means something.
func TestSet(t *testing.T) {
	gives(t, "(set! car 1) (lambda (x) (set! x (set! car x)))", "(set car '1) (lambda (#1:x) (set #1:x (set car #1:x)))")
	gives(t, "(define (f) (set! g f)) (define g 1)", "(define #1/f (lambda () (set #1/g #1/f))) (define #1/g '1)")
	refusesEach(t, "(set!) (set! car) (set! car 1 2) (set! . car) (set! car . 1) (set! car 1 . 2) (set! 1 2) (set! (car) 1) (set! \"car\" 1) (set! () 1) (set! #(car) 1) (set! if 1) (set! let 1) (set! syntax-rules 1)", api.ErrForms)
	refusesEach(t, "(set! nobody 1) (set! car nobody) (set! nobody if)", api.ErrBound)
	refusesEach(t, "(set! nobody) (set! nobody 1 2) (set! if nobody)", api.ErrForms)
}

// P19.3: begin as an expression has at least one; at the top and in a body it is opened.
func TestBegin(t *testing.T) {
	gives(t, "(car (begin 1)) (car (begin 1 2)) (car (begin (begin 1 2) (begin 3)))", "(call car '1) (call car (seq '1 '2)) (call car (seq (seq '1 '2) '3))")
	gives(t, "(begin) (begin 1 2) (begin (begin) (begin 3 (begin 4)))", "'1 '2 '3 '4")
	refusesEach(t, "(begin . 1) (begin 1 . 2) (car (begin)) (lambda () (begin)) (lambda () 1 (begin)) (car (begin 1 (define x 2))) (lambda () 1 (begin (define x 2) x))", api.ErrForms)
}

// P19.3: lambda, with each kind of parameters.
func TestLambda(t *testing.T) {
	gives(t, "(lambda () 1) (lambda (a) a) (lambda (a b c) b) (lambda (a . b) b) (lambda (a b . c) c) (lambda a a)",
		"(lambda () '1) (lambda (#1:a) #1:a) (lambda (#2:a #3:b #4:c) #3:b) (lambda (#5:a . #6:b) #6:b) (lambda (#7:a #8:b . #9:c) #9:c) (lambda (. #10:a) #10:a)")
	gives(t, "(lambda (lambda) lambda) (lambda (... _) (car ... _)) (lambda (x) 1 2 x)", "(lambda (#1:lambda) #1:lambda) (lambda (#2:... #3:_) (call car #2:... #3:_)) (lambda (#4:x) (seq '1 '2 #4:x))")
	refusesEach(t, "(lambda) (lambda . x) (lambda ()) (lambda x) (lambda (x)) (lambda (x) . x) (lambda (x) x . x) (lambda 1 2) (lambda (1) 2) (lambda (x . 1) 2) (lambda (x (y)) 2) (lambda #(x) 2) (lambda \"x\" 2) (lambda ((x)) 2)", api.ErrForms)
	refusesEach(t, "(lambda (x x) x) (lambda (x y x) 1) (lambda (x . x) x) (lambda (a b . a) 1) (lambda (x x) nobody) (lambda (x x))", api.ErrForms)
}

// P19.3: letrec*, whose names mean their variables in its expressions and its body.
func TestLetrec(t *testing.T) {
	gives(t, "(letrec* () 1) (letrec* ((a 1)) a) (letrec* ((a b) (b a)) a b)", "(letrec () '1) (letrec (#1:a) '1 #1:a) (letrec (#2:a #3:b) #3:b #2:a (seq #2:a #3:b))")
	gives(t, "(lambda (a) (letrec* ((a a)) a))", "(lambda (#1:a) (letrec (#2:a) #2:a #2:a))")
	gives(t, "(letrec* ((a (lambda (x) x)) (b (lambda (x) x))) (lambda (x) b))", "(letrec (#1:a #2:b) (lambda (#3:x) #3:x) (lambda (#4:x) #4:x) (lambda (#5:x) #2:b))")
	gives(t, "(letrec* ((a 1)) (define a a) a)", "(letrec (#1:a) '1 (letrec (#2:a) #2:a #2:a))")
	refusesEach(t, "(letrec*) (letrec* . x) (letrec* ()) (letrec* x 1) (letrec* (x) 1) (letrec* ((x)) 1) (letrec* ((x 1 2)) 1) (letrec* ((1 2)) 1) (letrec* (((x) 2)) 1) (letrec* ((x . 1)) 1) (letrec* ((x 1 . 2)) 1) (letrec* ((x 1) . y) 1) (letrec* ((x 1)) . x) (letrec* ((x 1)) x . x) (letrec* #((x 1)) x) (letrec* ((x 1)))", api.ErrForms)
	refusesEach(t, "(letrec* ((x 1) (x 2)) x) (letrec* ((x 1) (y 2) (x 3)) y) (letrec* ((x nobody) (x 2)) x) (letrec* ((x nobody) 2) x)", api.ErrForms)
}

// P19.3: other pairs are calls, of lists alone.
func TestCalls(t *testing.T) {
	gives(t, "(car) (car 1 2) ((car) (cdr 1)) (1 2) (\"a\") ((lambda () 1))", "(call car) (call car '1 '2) (call (call car) (call cdr '1)) (call '1 '2) (call '\"a\") (call (lambda () '1))")
	refusesEach(t, "(car . 1) (car 1 . 2) (car . car) (nobody . 1) (1 . 2) ((car) . 1) (() 1) (#(car) 1) (car ())", api.ErrForms)
}

// P19.3: keywords of definitions stand for no expressions.
func TestMisplaced(t *testing.T) {
	refusesEach(t, "(car (define x 1)) (if (define x 1) 2 3) (lambda () 1 (define x 2) 3) (set! car (define x 1)) (letrec* ((a (define x 1))) 1) (define x (define y 1)) (car (define-syntax m (syntax-rules ()))) (lambda () 1 (define-syntax m (syntax-rules ())) 2) (syntax-rules ()) (car (syntax-rules ())) (syntax-rules . 1) (car (define)) ((define x 1))", api.ErrForms)
}
