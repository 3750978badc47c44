package expand

import (
	"testing"

	"sextant/api"
)

// P19.3: the shapes of define-syntax, at the top and in a body.
func TestMacroShapes(t *testing.T) {
	gives(t, "(define-syntax m (syntax-rules ())) (define-syntax n (syntax-rules (else =>) ((_) 1) (((a)) 2) ((... (b)) 3) ((\"x\" c c2 . c3) 4))) (n) (n (1)) (n 1 2)", "'1 '3 '4")
	for _, s := range []string{
		"(define-syntax)", "(define-syntax m)", "(define-syntax . m)", "(define-syntax m . 1)", "(define-syntax m 5)", "(define-syntax m car)", "(define-syntax m let)", "(define-syntax m (let ()))", "(define-syntax m (nobody ()))", "(define-syntax m ())", "(define-syntax 1 (syntax-rules ()))", "(define-syntax (m) (syntax-rules ()))", "(define-syntax m (syntax-rules ()) 1)", "(define-syntax m (syntax-rules ()) . 1)",
		"(define-syntax m (syntax-rules))", "(define-syntax m (syntax-rules . ()))", "(define-syntax m (syntax-rules . x))", "(define-syntax m (syntax-rules x))", "(define-syntax m (syntax-rules (x . y)))", "(define-syntax m (syntax-rules (1)))", "(define-syntax m (syntax-rules ((x))))", "(define-syntax m (syntax-rules #(x)))", "(define-syntax m (syntax-rules () . x))", "(define-syntax m syntax-rules)", "(define-syntax m ((syntax-rules ())))",
		"(define-syntax m (syntax-rules () x))", "(define-syntax m (syntax-rules () ()))", "(define-syntax m (syntax-rules () ((_))))", "(define-syntax m (syntax-rules () ((_) 1 2)))", "(define-syntax m (syntax-rules () ((_) . 1)))", "(define-syntax m (syntax-rules () ((_) 1 . 2)))", "(define-syntax m (syntax-rules () (x 1)))", "(define-syntax m (syntax-rules () (() 1)))", "(define-syntax m (syntax-rules () (#(_) 1)))", "(define-syntax m (syntax-rules () ((_) 1) (5 1)))", "(define-syntax m (syntax-rules () ((_) 1) . 5))",
	} {
		refuses(t, s, api.ErrForms, 0)
		refuses(t, "(lambda () "+s+" 1)", api.ErrForms, 0)
		refuses(t, "1 (begin 2 "+s+")", api.ErrForms, 1)
	}
}

// P19.3: faults of patterns are told at the definition, whether or not it is used.
func TestPatternFaults(t *testing.T) {
	for _, rest := range []string{"(_ ...)", "(_ a ... ...)", "(_ a ... b ...)", "(_ a ... b ... . c)", "(_ . ...)", "(_ a . ...)", "(_ (... a))", "(_ #(...))", "(_ #(a ... b ...))", "(_ (a b ... c ...))", "(_ a a)", "(_ a (b a))", "(_ a . a)", "(_ a ... a)", "(_ (a ...) #(a))", "(_ a b #(c (b)))", "(... ... a)", "(... ...)"} {
		refuses(t, "(define-syntax m (syntax-rules () ("+rest+" 1)))", api.ErrForms, 0)
		refuses(t, "1 (lambda () (define-syntax m (syntax-rules () ((_) 1) ("+rest+" 1))) 1)", api.ErrForms, 1)
	}
	for _, literals := range []string{"(...)", "(_)", "(a ...)", "(_ a)", "(a _ b)"} {
		refuses(t, "(define-syntax m (syntax-rules "+literals+" ((_) 1)))", api.ErrForms, 0)
		refuses(t, "(define-syntax m (syntax-rules "+literals+"))", api.ErrForms, 0)
	}
	for _, fine := range []string{"(a a)", "(_ _ _)", "(_ (a ...) (b ...))", "(_ (a ... b) . #(c ... d))", "(_ a ... . b)", "(_ (a ...) ...)", "(_ ((a) ...) ... b)", "(_ a b _ ...)", "(_ x x y (x . y))", "((a a) a)", "((... ...) a)", "(_)", "(_ . a)", "(_ . 5)", "(_ . #(a))"} {
		gives(t, "(define-syntax m (syntax-rules (x y x) ("+fine+" 1)))", "")
	}
}

// P19.3: the rules are tried in order with the use's rest.
func TestRules(t *testing.T) {
	m := "(define-syntax m (syntax-rules () ((_) 0) ((_ a) '(one a)) ((_ (a b) ...) '(pairs a ... b ...)) ((_ a 5) 'five) ((_ a b ... \"s\") '((b ...) a)) ((_ #(a ... b) c) '(a ... b c)) ((_ a #\\x . d) '(rest a . d)) ((_ a b c . d) '(many a b c . d)))) "
	for use, want := range map[string]string{
		"(m)": "'0", "(m x)": "'(one x)", "(m (1 2))": "'(one (1 2))", "(m (1 2) (3 4))": "'(pairs 1 3 2 4)", "(m 1 5)": "'five", "(m () 5)": "'five", "(m 1 2 3 \"s\")": "'((2 3) 1)", "(m 1 \"s\")": "'(() 1)", "(m #(1) 2)": "'(1 2)", "(m #(1 2 3) 4)": "'(1 2 3 4)", "(m 1 #\\x)": "'(rest 1)", "(m 1 #\\x 2 3)": "'(rest 1 2 3)", "(m a b c)": "'(many a b c)", "(m a b c d e)": "'(many a b c d e)", "(m if let . (nobody))": "'(many if let nobody)",
	} {
		gives(t, m+use, want)
		gives(t, m+"(car "+use+")", "(call car "+want+")")
		gives(t, m+"(lambda () "+use+" "+use+")", "(lambda () (seq "+want+" "+want+"))")
	}
	for _, use := range []string{"(m 1 2)", "(m 1 #(2))", "(m #() 1)", "(m 1 6)", "(m 1 \"t\")", "(m (1 2) (3 4 5))", "(m (1 2) 3)"} {
		refuses(t, m+use, api.ErrForms, 1)
		refuses(t, m+"1 (car "+use+")", api.ErrForms, 2)
	}
}

// P19.3: a macro is no variable, and a use is a list.
func TestNoUses(t *testing.T) {
	m := "(define-syntax m (syntax-rules () ((_ . x) 'x))) "
	gives(t, m+"(m) (m 1 2) (m . (1))", "'() '(1 2) '(1)")
	for _, use := range []string{"m", "(car m)", "(set! m 1)", "((m) m)", "(if m 1)", "(let ((x m)) x)"} {
		refuses(t, m+use, api.ErrForms, 1)
	}
	refuses(t, m+"(m . 5)", api.ErrForms, 1)
	refuses(t, m+"(car (m 1 . 5))", api.ErrForms, 1)
	refuses(t, m+"(lambda () (m 1 . x) 2)", api.ErrForms, 1)
	refuses(t, "(or . 1)", api.ErrForms, 0)
}

// P19.3: templates are filled as chapter 17 fills them; a fault of one is told at the use.
func TestTemplates(t *testing.T) {
	for template, want := range map[string]string{
		"(x 5 \"s\" #\\a #t #vu8(1) 1/2)": "(1 5 \"s\" #\\a #t #vu8(1) 1/2)", "(y ...)": "(2 3)", "(x . y)": "fault", "((x y) ...)": "((1 2) (1 3))", "(y ... y ...)": "(2 3 2 3)", "#(x y ... #(y) ...)": "#(1 2 3 #(2) #(3))", "(y ... . x)": "(2 3 . 1)", "((z ...) ...)": "((4) (5 6))", "(z ... ...)": "(4 5 6)", "((y z ...) ...)": "((2 4) (3 5 6))", "((y z) ... ...)": "((2 4) (3 5) (3 6))", "(y)": "fault", "z": "fault", "(z ...)": "fault", "(x ...)": "fault", "(1 ...)": "fault", "(() ...)": "fault", "(free ...)": "fault", "(y ... ...)": "fault", "(... ...)": "...", "((... ...) x)": "(... 1)", "(... (x ...))": "(1 ...)", "(... (... x))": "(... 1)", "(... (y ...))": "fault", "(... x y)": "fault", "(x . ...)": "fault", "...": "fault", "(... . x)": "fault", "((y w) ...)": "fault", "((y (w ...)) ...)": "fault", "((x w) ...)": "((1 7) (1 8) (1 9))", "((e x) ...)": "()", "(e ... x)": "(1)", "#(e ...)": "#()", "((e y) ...)": "fault", "(_ x)": "(_ 1)", "(free if x)": "(free if 1)", "()": "()", "#()": "#()", "'x": "(quote 1)",
	} {
		program := "(define-syntax m (syntax-rules () ((_ x (y ...) ((z ...) ...) (w ...) (e ...)) (quote " + template + ")))) (m 1 (2 3) ((4) (5 6)) (7 8 9) ())"
		if want == "fault" {
			refuses(t, program, api.ErrForms, 1)
			continue
		}
		gives(t, program, told(api.Core{Op: api.Const, Value: one(want)}))
		gives(t, "(define-syntax m (syntax-rules () ((_) (quote "+template+"))))", "")
	}
}

// P19.3: uses as definitions, which come to other uses, at the top and in bodies.
func TestUsesAsDefinitions(t *testing.T) {
	def := "(define-syntax def (syntax-rules () ((_) (begin)) ((_ n v . more) (begin (define n v) (def . more))))) "
	gives(t, def+"(def) (def a 1 b 2) (begin (def c a) 5)", "(define #1/a '1) (define #1/b '2) (define #1/c #1/a) '5")
	gives(t, def+"(lambda () (def) (def a 1 b 2) (def c a) (list a b c))", "(lambda () (letrec (#1:a #2:b #3:c) '1 '2 #1:a (call list #1:a #2:b #3:c)))")
	gives(t, def+"(lambda (a) (def b a) (when a b))", "(lambda (#1:a) (letrec (#2:b) #1:a (if #1:a #2:b '#<void>)))")
	refuses(t, def+"(car (def a 1))", api.ErrForms, 1)
	refuses(t, def+"(lambda () 1 (def a 1) a)", api.ErrForms, 1)
	refuses(t, def+"(car (def))", api.ErrForms, 1)
	refuses(t, def+"(def a 1) (def a 2)", api.ErrForms, 2)
	refuses(t, def+"(def a 1 car 2)", api.ErrForms, 1)
	refuses(t, def+"(lambda () (def a 1 b 2))", api.ErrForms, 1)
	gives(t, "(define-syntax seq (syntax-rules () ((_ x ...) (begin x ...)))) (seq) (seq (define a 1) a) (lambda () (seq (define b 2)) (seq a (seq b)) (car (seq a b)))",
		"(define #1/a '1) #1/a (lambda () (letrec (#1:b) '2 (seq #1/a #1:b (call car (seq #1/a #1:b)))))")
}

// P19.3: macros defined in bodies, which see what stands beside them; with macros alone there is no letrec*.
func TestMacrosInBodies(t *testing.T) {
	gives(t, "(lambda () (define-syntax m (syntax-rules () ((_ a) (list a 1)))) (m 2))", "(lambda () (call list '2 '1))")
	gives(t, "(lambda (x) (define-syntax m (syntax-rules () ((_) (list x y)))) (define y x) (lambda (x y) (m)))",
		"(lambda (#1:x) (letrec (#2:y) #1:x (lambda (#3:x #4:y) (call list #1:x #2:y))))")
	gives(t, "(lambda () (define-syntax a (syntax-rules () ((_) (b)))) (define-syntax b (syntax-rules () ((_) 5))) (a))", "(lambda () '5)")
	gives(t, "(lambda () (define-syntax if (syntax-rules () ((_ a) (list a)))) (if 1))", "(lambda () (call list '1))")
	gives(t, "(define-syntax m (syntax-rules () ((_) 1))) (lambda () (define x (m)) (define-syntax m (syntax-rules () ((_) 2))) (list x (m)))", "(lambda () (letrec (#1:x) '2 (call list #1:x '2)))")
	gives(t, "(lambda () (define-syntax syntax-rules (syntax-rules () ((_) 1))) (syntax-rules))", "(lambda () '1)")
	refuses(t, "(lambda () (define-syntax m (syntax-rules () ((_) 1))) (m)) (m)", api.ErrBound, 1)
	refuses(t, "(lambda (syntax-rules) (define-syntax m (syntax-rules () ((_) 1))) (m))", api.ErrForms, 0)
	refuses(t, "(lambda (m) (m)) (lambda () (define-syntax m (syntax-rules ())) (m))", api.ErrForms, 1)
	gives(t, "(define-syntax m (syntax-rules () ((_) 1))) (lambda (m) (m)) (letrec* ((m 1)) (m)) (lambda () (define m 2) (m))", "(lambda (#1:m) (call #1:m)) (letrec (#2:m) '1 (call #2:m)) (lambda () (letrec (#3:m) '2 (call #3:m)))")
}

// P19.3: macros that define macros, with ellipses of their own.
func TestMacrosByMacros(t *testing.T) {
	gives(t, "(define-syntax make (syntax-rules () ((_ n v) (define-syntax n (syntax-rules () ((_) v)))))) (make five 5) (five) (lambda (x) (make get x) (lambda (x) (get)))",
		"'5 (lambda (#1:x) (lambda (#2:x) #1:x))")
	gives(t, "(define-syntax make (syntax-rules () ((_ n) (define-syntax n (syntax-rules () ((_ a (... ...)) '(n a (... ...))) ((_ a . b) '(b . a))))))) (make f) (f) (f 1 2) (f 1 . (2 3))", "'(f) '(f 1 2) '(f 1 2 3)")
	gives(t, "(define-syntax make (syntax-rules () ((_ n l) (define-syntax n (syntax-rules (l m) ((_ l) 'outer) ((_ m) 'inner) ((_ _) 'other)))))) (make f else) (f else) (f m) (f x) (lambda (else) (f else))",
		"'outer 'inner 'other (lambda (#1:else) 'other)")
	gives(t, "(define-syntax make (syntax-rules () ((_ n (a ...) b) (define-syntax n (syntax-rules () ((_ a ...) b)))))) (make f (x y) (list y x)) (f 1 2)", "(call list '2 '1)")
	refuses(t, "(define-syntax make (syntax-rules () ((_ n a b) (define-syntax n (syntax-rules () ((_ a b) 1)))))) (make f x y) (f 1 2) (make g x x)", api.ErrForms, 3)
	refuses(t, "(define-syntax make (syntax-rules () ((_ n) (define-syntax n (syntax-rules ((... ...)) ((_) 1)))))) (make f)", api.ErrForms, 1)
	refuses(t, "(define-syntax make (syntax-rules () ((_ n) (define-syntax n (syntax-rules (_) ((_) 1)))))) (make f)", api.ErrForms, 1)
	refuses(t, "(define-syntax make (syntax-rules () ((_ n) (define-syntax n (syntax-rules () ((_ (... ...)) 1)))))) (make f)", api.ErrForms, 1)
}

// P19.3: an ellipsis and _ are told by their base, whatever they mean where they stand.
func TestEllipsisByBase(t *testing.T) {
	gives(t, "(define ... 1) (define _ 2) (define-syntax m (syntax-rules () ((_ _ a ...) '(a ...)))) (m 1 2 3)", "(define #1/... '1) (define #1/_ '2) '(2 3)")
	gives(t, "(lambda (... _) (define-syntax m (syntax-rules () ((_ _ a ...) (list a ... (... ...) _)))) (m 1 2 3))", "(lambda (#1:... #2:_) (call list '2 '3 #1:... #2:_))")
	gives(t, "(define-syntax make (syntax-rules () ((_ n dots any) (define-syntax n (syntax-rules () ((_ any a dots) '(a dots))))))) (make f ... _) (f 1 2 3)", "'(2 3)")
	gives(t, "(define-syntax m (syntax-rules () ((_ a) '(a (... ...))))) (m ...) (m _)", "'(... ...) '(_ ...)")
}

// P19.3: a literal matches what means the same: a keyword, a macro, a variable, or nothing and then the same base.
func TestLiterals(t *testing.T) {
	m := "(define-syntax m (syntax-rules (if let car else) ((_ if) 'if) ((_ let) 'let) ((_ car) 'car) ((_ else) 'else) ((_ a) 'no))) "
	gives(t, m+"(m if) (m let) (m car) (m else) (m =>) (m cdr) (m 1) (m (if)) (m #(if))", "'if 'let 'car 'else 'no 'no 'no 'no 'no")
	gives(t, m+"(lambda (if let car else) (list (m if) (m let) (m car) (m else)))", "(lambda (#1:if #2:let #3:car #4:else) (call list 'no 'no 'no 'no))")
	gives(t, m+"(lambda (if) (m if) (m let))", "(lambda (#1:if) (seq 'no 'let))")
	gives(t, m+"(define else 1) (m else)", "(define #1/else '1) 'else")
	gives(t, "(define-syntax m (syntax-rules (x) ((_ x) 'x) ((_ a) 'no))) (define x 1) (m x) (lambda (x) (m x))", "(define #1/x '1) 'x (lambda (#1:x) 'no)")
	gives(t, "(lambda (x) (define-syntax m (syntax-rules (x) ((_ x) 'x) ((_ a) 'no))) (list (m x) (lambda (x) (m x)) (lambda (y) (m x))))", "(lambda (#1:x) (call list 'x (lambda (#2:x) 'no) (lambda (#3:y) 'x)))")
	gives(t, "(lambda (y) (define-syntax m (syntax-rules (x y) ((_ x) 'x) ((_ y) 'y) ((_ a) 'no))) (lambda (x) (m x) (m y)))", "(lambda (#1:y) (lambda (#2:x) (seq 'no 'y)))")
	gives(t, "(let ((else #f)) (cond (else 1))) (let ((=> #f)) (cond (1 => car))) (cond (1 => car) (else 2))",
		"(call (lambda (#1:else) (if #1:else '1 '#<void>)) '#f) (call (lambda (#2:=>) (if '1 (seq #2:=> car) '#<void>)) '#f) (call (lambda (#3:t) (if #3:t (call car #3:t) '2)) '1)")
	refuses(t, "(let ((=> 1)) (case 1 (else => 2) (nobody)))", api.ErrForms, 0)
}

// P19.3: literals by aliases, and names that are the same thing under another name.
func TestLiteralsByOtherNames(t *testing.T) {
	gives(t, "(define-syntax m (syntax-rules (else) ((_ else) 'else) ((_ a) 'no))) (define-syntax n (syntax-rules () ((_) (m else)) ((_ a) (m a)) ((_ a b) (let ((else 1)) (m a))) ((_ a b c) (let ((else 1)) (m else))) ((_ 1 2 3 a) (let ((a 1)) (m else))))) (n) (n else) (n else 1) (n 1 1 1) (n 1 2 3 else)",
		"'else 'else (call (lambda (#1:else) 'else) '1) (call (lambda (#2:else) 'no) '1) (call (lambda (#3:else) 'else) '1)")
	s := scope(t)
	for name, of := range map[string]string{"first": "car", "when?": "if", "bind": "let"} {
		if e := s.Import(name, s, of); e != api.OK {
			t.Fatalf("Import(%q): error %d", name, e)
		}
	}
	adds(t, s, "(define-syntax m (syntax-rules (if let car first) ((_ if) 'if) ((_ let) 'let) ((_ first) 'first) ((_ car) 'car) ((_ a) 'no))) (m when?) (m bind) (m first) (m car) (m cdr)", "'if 'let 'first 'first 'no")
	adds(t, s, "(when? 1 (first 2) (bind ((x 3)) x))", "(if '1 (call car '2) (call (lambda (#1:x) #1:x) '3))")
}
