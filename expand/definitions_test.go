package expand

import (
	"testing"

	"sextant/api"
)

// P19.3: definitions at the top, in each of their shapes.
func TestTopDefinitions(t *testing.T) {
	gives(t, "(define x 1) (define y) (define (f) 1) (define (g a) a) (define (h a . b) b) (define (i . a) a)",
		"(define #1/x '1) (define #1/y '#<void>) (define #1/f (lambda () '1)) (define #1/g (lambda (#1:a) #1:a)) (define #1/h (lambda (#2:a . #3:b) #3:b)) (define #1/i (lambda (. #4:a) #4:a))")
	gives(t, "(define x car) x (define y x) (set! x y) 5", "(define #1/x car) #1/x (define #1/y #1/x) (set #1/x #1/y) '5")
	gives(t, "(define (f x) (define y x) 1 y) (define ... 1) (define _ ...)", "(define #1/f (lambda (#1:x) (letrec (#2:y) #1:x (seq '1 #2:y)))) (define #1/... '1) (define #1/_ #1/...)")
	for _, s := range []string{"(define)", "(define . x)", "(define x . 1)", "(define x 1 . 2)", "(define x 1 2)", "(define 1 2)", "(define \"x\" 2)", "(define ())", "(define () 1)", "(define #(x) 1)", "(define (1) 2)", "(define ((f) x) 1)", "(define ((f x) y) 1)", "(define (f) . 1)", "(define (f))", "(define (f x))", "(define (f x x) x)", "(define (f . 1) 2)", "(define (f 1) 2)", "(define (f (x)) 2)"} {
		refuses(t, s, api.ErrForms, 0)
		refuses(t, "(lambda () "+s+" 1)", api.ErrForms, 0)
		refuses(t, "1 (begin 2 "+s+")", api.ErrForms, 1)
	}
}

// P19.3: what is defined anywhere at the top means its variable in all forms; the numbers of locals go on.
func TestTopRounds(t *testing.T) {
	gives(t, "(define (f) (g)) (define (g) x) (define x (f))", "(define #1/f (lambda () (call #1/g))) (define #1/g (lambda () #1/x)) (define #1/x (call #1/f))")
	gives(t, "x (define x x)", "#1/x (define #1/x #1/x)")
	gives(t, "(begin (define a b) (define b 1)) (begin 2 (begin (define c a)))", "(define #1/a #1/b) (define #1/b '1) '2 (define #1/c #1/a)")
	gives(t, "(m 1) (define-syntax m (syntax-rules () ((_ x) (quote x))))", "'1")
	refuses(t, "(m x) (define-syntax m (syntax-rules () ((_ x) (define x 1))))", api.ErrForms, 0)
	gives(t, "(define f (lambda (x) x)) (lambda (y) y)", "(define #1/f (lambda (#1:x) #1:x)) (lambda (#2:y) #2:y)")
}

// P19.3: what the scope has already is not defined again, be it a keyword, a macro or a variable, from this call or an earlier one.
func TestTopTwice(t *testing.T) {
	for _, name := range []string{"car", "list", "if", "define", "let", "syntax-rules"} {
		refuses(t, "(define "+name+" 1)", api.ErrForms, 0)
		refuses(t, "(define ("+name+") 1)", api.ErrForms, 0)
		refuses(t, "1 (define-syntax "+name+" (syntax-rules ()))", api.ErrForms, 1)
	}
	refuses(t, "(define x 1) (define x 2)", api.ErrForms, 1)
	refuses(t, "(define x 1) 2 (define (x) 2)", api.ErrForms, 2)
	refuses(t, "(define-syntax x (syntax-rules ())) (define x 2)", api.ErrForms, 1)
	refuses(t, "(define x 1) (define-syntax x (syntax-rules ()))", api.ErrForms, 1)
	refuses(t, "(begin (define x 1) (define x 1))", api.ErrForms, 0)
	s := scope(t)
	adds(t, s, "(define x 1) (define-syntax y (syntax-rules ()))", "(define #1/x '1)")
	fails(t, s, read("(define x 1)"), api.ErrForms, 0)
	fails(t, s, read("(define-syntax x (syntax-rules ()))"), api.ErrForms, 0)
	fails(t, s, read("1 (define y 1)"), api.ErrForms, 1)
	adds(t, s, "x (set! x x) (define z x)", "#1/x (set #1/x #1/x) (define #1/z #1/x)")
}

// P19.3: definitions in a body are a letrec*'s variables, in the order in which they are met.
func TestBodies(t *testing.T) {
	gives(t, "(lambda () (define x) (define y x) y)", "(lambda () (letrec (#1:x #2:y) '#<void> #1:x #2:y))")
	gives(t, "(lambda (a) (define (f x) (g a)) (define (g . y) (f y)) (f 1) (g 2))",
		"(lambda (#1:a) (letrec (#2:f #3:g) (lambda (#4:x) (call #3:g #1:a)) (lambda (. #5:y) (call #2:f #5:y)) (seq (call #2:f '1) (call #3:g '2))))")
	gives(t, "(lambda () (define a (lambda (x) x)) (define b (lambda (x) x)) (lambda (x) x))", "(lambda () (letrec (#1:a #2:b) (lambda (#3:x) #3:x) (lambda (#4:x) #4:x) (lambda (#5:x) #5:x)))")
	gives(t, "(lambda () 1) (lambda () 1 2)", "(lambda () '1) (lambda () (seq '1 '2))")
	gives(t, "(letrec* ((a (lambda (x) x))) (define b a) (define a b) a)", "(letrec (#1:a) (lambda (#2:x) #2:x) (letrec (#3:b #4:a) #4:a #3:b #4:a))")
}

// P19.3: begin is opened in a body, as long as no expression has come.
func TestBodyBegins(t *testing.T) {
	gives(t, "(lambda () (begin (define x 1) (define y 2)) x)", "(lambda () (letrec (#1:x #2:y) '1 '2 #1:x))")
	gives(t, "(lambda () (begin) (begin (begin) (define x 1)) (begin) (define y 2) (begin x (car y)) (begin y))", "(lambda () (letrec (#1:x #2:y) '1 '2 (seq #1:x (call car #2:y) #2:y)))")
	gives(t, "(lambda () (begin 1)) (lambda () (begin 1 2)) (lambda () (begin 1 2) 3) (lambda () (begin (begin 1 2) 3) 4)", "(lambda () '1) (lambda () (seq '1 '2)) (lambda () (seq '1 '2 '3)) (lambda () (seq '1 '2 '3 '4))")
	gives(t, "(lambda () 1 (begin 2 3)) (lambda () 1 (begin 2))", "(lambda () (seq '1 (seq '2 '3))) (lambda () (seq '1 '2))")
	refusesEach(t, "(lambda () (begin)) (lambda () (begin) (begin (begin))) (lambda () 1 (begin)) (lambda () (begin 1 (define x 2)) x) (lambda () (begin 1) (define x 2) x) (lambda () (begin . 1)) (lambda () (begin (define x 1) . 2) x)", api.ErrForms)
}

// P19.3: a body has an expression behind its definitions, and defines nothing twice.
func TestBodyFaults(t *testing.T) {
	refusesEach(t, "(lambda () (define x 1)) (let () (define x 1)) (lambda () (define-syntax m (syntax-rules ()))) (lambda (x) (begin (define x 1)))", api.ErrForms)
	refusesEach(t, "(lambda () (define x 1) (define x 2) x) (lambda () (define x 1) (define-syntax x (syntax-rules ())) 1) (lambda () (define-syntax x (syntax-rules ())) (define x 1) 1) (lambda () (begin (define x 1)) (begin (define (x) 2)) x)", api.ErrForms)
	refusesEach(t, "(lambda () 1 (define x 2) x) (lambda () (define x 1) x (define y 2) y) (lambda () (car 1) (define-syntax m (syntax-rules ())) 1)", api.ErrForms)
	refusesEach(t, "(lambda () (define x nobody) x) (lambda () (define x 1) y) (lambda () (define x y) 1 (lambda (y) x))", api.ErrBound)
}

// P19.3: in a body names that are there outside are bound anew, keywords too.
func TestBodyNames(t *testing.T) {
	gives(t, "(lambda (x) (define x 1) x)", "(lambda (#1:x) (letrec (#2:x) '1 #2:x))")
	gives(t, "(lambda () (define car cdr) (car 1))", "(lambda () (letrec (#1:car) cdr (call #1:car '1)))")
	gives(t, "(lambda () (define if list) (if 1 2 3 4))", "(lambda () (letrec (#1:if) list (call #1:if '1 '2 '3 '4)))")
	gives(t, "(lambda () (define define 1) (define define 2))", "(lambda () (letrec (#1:define) '1 (call #1:define #1:define '2)))")
	gives(t, "(lambda () (define lambda 1) (define (f x) x) f)", "(lambda () (letrec (#1:lambda #2:f) '1 (lambda (#3:x) #3:x) #2:f))")
	gives(t, "(lambda () (define begin car) (begin 1))", "(lambda () (letrec (#1:begin) car (call #1:begin '1)))")
	gives(t, "(lambda (quote x) 'x)", "(lambda (#1:quote #2:x) (call #1:quote #2:x))")
}
