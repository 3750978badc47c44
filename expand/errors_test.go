package expand

import (
	"slices"
	"testing"

	"sextant/api"
)

// P19.3: data that are not sound come ahead of all else, the first one first.
func TestUnsoundForms(t *testing.T) {
	for _, d := range unsound() {
		s := scope(t)
		fails(t, s, []api.Datum{d}, api.ErrForm, 0)
		fails(t, s, []api.Datum{empty(), one("(foo)"), d, d, {}}, api.ErrForm, 2)
		fails(t, s, []api.Datum{one("(define x 1)"), {}, d}, api.ErrForm, 1)
		adds(t, s, "(define x 1) (lambda (y) y)", "(define #1/x '1) (lambda (#1:y) #1:y)")
	}
}

// P19.3: of errors the first met counts: from the left, and at the top in two rounds.
func TestFirstError(t *testing.T) {
	for _, of := range []struct {
		program string
		want    api.Errno
		place   int
	}{
		{"(foo) ()", api.ErrBound, 0},
		{"() (foo)", api.ErrForms, 0},
		{"(foo) (define car 1)", api.ErrForms, 1},
		{"() (car . 1) (lambda (x x) x) (define 1 2) (define car 1)", api.ErrForms, 3},
		{"(foo) (define-syntax m 5)", api.ErrForms, 1},
		{"(foo) (define-syntax m (syntax-rules () ((_ a a) 1)))", api.ErrForms, 1},
		{"(foo) (begin 1 (begin . 2))", api.ErrForms, 1},
		{"(foo) 1 (or . 1)", api.ErrForms, 2},
		{"(foo) 1 (let)", api.ErrForms, 2},
		{"(foo) (car (let))", api.ErrBound, 0},
		{"1 (define (f x x) 1) (define car 1)", api.ErrForms, 2},
		{"1 (define (f x x) 1) (foo)", api.ErrForms, 1},
		{"1 (define f (foo)) (define g ())", api.ErrBound, 1},
		{"1 (begin 2 (define f 1) (foo)) ()", api.ErrBound, 1},
		{"(define x 1) (begin (define y 2) x z) ()", api.ErrBound, 1},
		{"(list (foo) ())", api.ErrBound, 0},
		{"(list () (foo))", api.ErrForms, 0},
		{"((foo) . 1)", api.ErrForms, 0},
		{"(foo ())", api.ErrBound, 0},
		{"(if (foo) ())", api.ErrBound, 0},
		{"(if () (foo))", api.ErrForms, 0},
		{"(if 1 (foo) ())", api.ErrBound, 0},
		{"(if (foo) 1 2 3)", api.ErrForms, 0},
		{"(set! foo ())", api.ErrBound, 0},
		{"(set! if (foo))", api.ErrForms, 0},
		{"(set! foo 1 2)", api.ErrForms, 0},
		{"(car (begin 1 (foo) ()))", api.ErrBound, 0},
		{"(car (begin 1 () (foo)))", api.ErrForms, 0},
		{"(lambda (x x) (foo))", api.ErrForms, 0},
		{"(lambda (x) (foo) ())", api.ErrBound, 0},
		{"(lambda (x) (define y (foo)) (if))", api.ErrBound, 0},
		{"(lambda (x) (define y (foo)) (define y 1) 1)", api.ErrForms, 0},
		{"(lambda (x) (define y (foo)))", api.ErrForms, 0},
		{"(lambda (x) (define y (foo)) (let))", api.ErrForms, 0},
		{"(lambda (x) (define y (foo)) 1 (let))", api.ErrBound, 0},
		{"(lambda (x) (define y (if)) (foo))", api.ErrForms, 0},
		{"(lambda (x) (define (y x x) 1) (foo))", api.ErrForms, 0},
		{"(lambda (x) (define y (foo)) 1 . 2)", api.ErrForms, 0},
		{"(letrec* ((x (foo)) (x 1)) 1)", api.ErrForms, 0},
		{"(letrec* ((x (foo)) (y ())) 1)", api.ErrBound, 0},
		{"(letrec* ((x ()) (y (foo))) 1)", api.ErrForms, 0},
		{"(letrec* ((x (foo))) (define y 1))", api.ErrBound, 0},
		{"(letrec* ((x (foo))) (define y 1) (define y 2) 1)", api.ErrBound, 0},
		{"(letrec* ((x (lambda () (if)))) (foo))", api.ErrForms, 0},
		{"((lambda (x) (foo)) ())", api.ErrBound, 0},
		{"(let ((x ())) (foo))", api.ErrBound, 0},
		{"(or (foo) ())", api.ErrForms, 0}, // the expression is an argument, behind the procedure
		{"(define-syntax m (syntax-rules () ((_ a) (list a ())))) (m (foo))", api.ErrBound, 1},
		{"(define-syntax m (syntax-rules () ((_ a) (list () a)))) (m (foo))", api.ErrForms, 1},
		{"(define-syntax m (syntax-rules () ((_ a) (begin (define b a) (define car2 (if)))))) 1 (m (foo))", api.ErrBound, 2},
		{"(define-syntax m (syntax-rules () ((_ a ...) (begin (define a 1) ...)))) (foo) (m x y x)", api.ErrForms, 2},
	} {
		refuses(t, of.program, of.want, of.place)
	}
}

// P19.3: a call that answers an error leaves the scope as it was: its names, the meanings of its macros, and its numbers.
func TestScopeIsLeft(t *testing.T) {
	s := scope(t)
	adds(t, s, "(define x 1) (define-syntax m (syntax-rules () ((_) (list x y)) ((_ n) (define n 1)) ((_ n k) (begin (define hidden 1) (define (n) hidden))))) (lambda (a) a)", "(define #1/x '1) (lambda (#1:a) #1:a)")
	names := s.Names()
	for program, want := range map[string]api.Errno{
		"(define y 1) (m) (foo)": api.ErrBound, "(define y 1) (m) ()": api.ErrForms, "(m y) (m) (lambda (a b c) (define d 1) d) (foo)": api.ErrBound, "(m y 1) (m) (define x 2)": api.ErrForms, "(define-syntax y (syntax-rules () ((_ a) 'a))) (y 1) (foo)": api.ErrBound, "(begin (define y 1) (define z 2)) (begin (begin (define y 3)))": api.ErrForms, "(define-syntax m (syntax-rules ()))": api.ErrForms, "(define-syntax y (syntax-rules ())) (y)": api.ErrForms, "(m y 1) (m z 2) (lambda (a) (lambda (b) (foo)))": api.ErrBound,
	} {
		forms := read(program)
		for range 2 {
			if list, at, e := s.Forms(forms); e != want || at != len(forms)-1 || len(list) > 0 || !slices.Equal(s.Names(), names) {
				t.Errorf("%s: %d cores, error %d at %d; want error %d", program, len(list), e, at, want)
			}
		}
		fails(t, s, read("y"), api.ErrBound, 0)
		fails(t, s, read("(m)"), api.ErrBound, 0)
	}
	fails(t, s, []api.Datum{one("(define y 1)"), {}}, api.ErrForm, 1)
	adds(t, s, "(lambda (a) x) (m y) (m) (m z 1)", "(lambda (#3:a) #1/x) (define #1/y '1) (call list #1/x #1/y) (define #2:hidden '1) (define #1/z (lambda () #2:hidden))")
}

// P19.3, R5: numbers go on over the calls of one scope, and hang on no other scope.
func TestNumbersGoOn(t *testing.T) {
	s, other := scope(t), numbered(t, 2)
	adds(t, s, "(lambda (a b) a)", "(lambda (#1:a #2:b) #1:a)")
	adds(t, other, "(lambda (a) a) (define b 1)", "(lambda (#1:a) #1:a) (define #2/b '1)")
	adds(t, s, "(define c 1) (lambda (d) (define e d) e)", "(define #1/c '1) (lambda (#3:d) (letrec (#4:e) #3:d #4:e))")
	fails(t, s, read("(lambda (f g h) 1) ()"), api.ErrForms, 1)
	adds(t, other, "(or 1 2)", "(call (lambda (#2:t) (if #2:t #2:t '2)) '1)")
	adds(t, s, "(letrec* ((f 1)) f) (or c 2)", "(letrec (#5:f) '1 #5:f) (call (lambda (#6:t) (if #6:t #6:t '2)) #1/c)")
}
