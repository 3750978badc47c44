package expand

import (
	"math"
	"regexp"
	"slices"
	"strconv"
	"strings"
	"testing"

	"sextant/api"
)

// The words of the chapters, written out.
const (
	chapterKeywords   = "quote if set! begin lambda letrec* define define-syntax syntax-rules"
	chapterPrimitives = "eq? eqv? equal? pair? null? symbol? string? char? boolean? vector? bytevector? procedure? number? integer? rational? condition? eof-object? cons car cdr set-car! set-cdr! + * - / = < > <= >= div mod numerator denominator expt bitwise-and bitwise-ior bitwise-xor bitwise-not bitwise-arithmetic-shift number->string string->number char->integer integer->char char-upcase char-downcase char-alphabetic? string-length string-ref substring string-append string->list list->string string->symbol symbol->string string=? string<? string-upcase string-downcase vector make-vector vector-ref vector-set! vector-length vector->list list->vector make-bytevector bytevector-u8-ref bytevector-u8-set! bytevector-length utf8->string string->utf8 make-rtd record-constructor record-predicate record-accessor record-mutator make-condition condition-who condition-message condition-irritants violation? error? write display newline read-char peek-char read eof-object file-exists? delete-file file->string string->file apply values call-with-values dynamic-wind call/cc with-exception-handler raise raise-continuable exit"
	preludeMacros     = "let let* letrec and or when unless cond case do receive guard define-field define-record-type"
	preludeProcedures = "not list length list? reverse append list-tail list-ref memp memv member assp assv assoc map1 map for-each filter fold-left fold-right list-sort abs zero? max min gcd error assertion-violation make-hashtable hashtable-place hashtable-find hashtable-size hashtable-ref hashtable-set! hashtable-delete! hashtable-keys"
)

func sorted(texts ...string) []string {
	out := strings.Fields(strings.Join(texts, " "))
	slices.Sort(out)
	return out
}

func imports(t *testing.T, s *Scope, name string, from *Scope, of string, want api.Errno) {
	t.Helper()
	names := s.Names()
	if e := s.Import(name, from, of); e != want {
		t.Errorf("Import(%q, .., %q): error %d; want error %d", name, of, e, want)
	}
	if want != api.OK && !slices.Equal(s.Names(), names) {
		t.Errorf("Import(%q, .., %q): error %d, but the scope has other names", name, of, want)
	}
}

func hasNames(t *testing.T, s *Scope, want ...string) {
	t.Helper()
	if got := s.Names(); !slices.Equal(got, want) {
		t.Errorf("Names: %q; want %q", got, want)
	}
}

// P19.1: the base has just the names of the chapters and of the prelude.
func TestBaseNames(t *testing.T) {
	s, cores := Base()
	hasNames(t, s, sorted(chapterKeywords, chapterPrimitives, preludeMacros, preludeProcedures)...)
	var defined []string
	for _, c := range cores {
		defined = append(defined, c.Name)
		if c.Op != api.Define {
			t.Errorf("a core of the base: %s", told(c))
		}
	}
	if want := strings.Fields(preludeProcedures); !slices.Equal(defined, want) {
		t.Errorf("the base defines %q; want %q", defined, want)
	}
	for _, name := range strings.Fields(chapterPrimitives + " " + preludeProcedures) {
		adds(t, s, name, name)
	}
	for _, name := range strings.Fields(chapterKeywords + " " + preludeMacros) {
		fails(t, s, []api.Datum{sym(name)}, api.ErrForms, 0)
		fails(t, s, []api.Datum{list(sym("set!"), sym(name), one("1"))}, api.ErrForms, 0)
	}
}

// P19.1: what the prelude comes to, here and there.
func TestBaseCores(t *testing.T) {
	_, cores := Base()
	for i, want := range []string{
		"(define not (lambda (#1:x) (if #1:x '#f '#t)))",
		"(define list (lambda (. #2:x) #2:x))",
		"(define length (lambda (#3:l) (call (letrec (#4:loop) (lambda (#5:l #6:n) (if (call null? #5:l) #6:n (call #4:loop (call cdr #5:l) (call + #6:n '1)))) #4:loop) #3:l '0)))",
	} {
		if got := told(cores[i]); got != want {
			t.Errorf("got  %s\nwant %s", got, want)
		}
	}
	want := map[string]string{
		"zero?":         "(define zero? (lambda (x) (call = x '0)))",
		"memv":          "(define memv (lambda (x l) (call memp (lambda (y) (call eqv? x y)) l)))",
		"append":        "(define append (lambda (. ls) (if (call null? ls) '() (if (call null? (call cdr ls)) (call car ls) (call (lambda (rest) (call (letrec (loop) (lambda (l r) (if (call null? l) r (call loop (call cdr l) (call cons (call car l) r)))) loop) (call reverse (call car ls)) rest)) (call apply append (call cdr ls)))))))",
		"hashtable-ref": "(define hashtable-ref (lambda (t k d) (call (lambda (p) (if p (call cdr p) d)) (call hashtable-find t k))))",
	}
	for _, c := range cores {
		if text, ok := want[c.Name]; ok && plain(told(c)) != text {
			t.Errorf("got  %s\nwant %s", plain(told(c)), text)
		}
	}
}

// plain is a core's text without the numbers of locals.
func plain(text string) string { return regexp.MustCompile("#[0-9]+:").ReplaceAllString(text, "") }

// highest is the greatest number of a local in some cores.
func highest(cores []api.Core) int {
	most := 0
	for _, c := range cores {
		for _, name := range c.Params {
			k, _ := strconv.Atoi(strings.TrimPrefix(strings.SplitN(name, ":", 2)[0], "#"))
			most = max(most, k)
		}
		most = max(most, highest(c.Args))
	}
	return most
}

// P19.1: each call's scope is its own, and goes on where the prelude ends.
func TestBaseTwice(t *testing.T) {
	a, first := Base()
	b, second := Base()
	if !alikeCores(first, second) {
		t.Error("the second call answers other cores")
	}
	next := "#" + strconv.Itoa(highest(first)+1) + ":"
	adds(t, a, "(define mine 1) (lambda (x) mine)", "(define mine '1) (lambda ("+next+"x) mine)")
	adds(t, a, "(define-syntax own (syntax-rules () ((_) (begin (define hidden 1) hidden)))) (own)", "(define #"+strconv.Itoa(highest(first)+2)+":hidden '1) #"+strconv.Itoa(highest(first)+2)+":hidden")
	fails(t, b, read("mine"), api.ErrBound, 0)
	fails(t, b, read("(own)"), api.ErrBound, 0)
	adds(t, b, "(lambda (x) (if (set! car x) 'a (begin 1 2)))", "(lambda ("+next+"x) (if (set car "+next+"x) 'a (seq '1 '2)))")
	hasNames(t, b, sorted(chapterKeywords, chapterPrimitives, preludeMacros, preludeProcedures)...)
	c, third := Base()
	if !alikeCores(first, third) || !slices.Equal(b.Names(), c.Names()) {
		t.Error("the third call answers something else")
	}
	s, _ := New(1)
	for _, name := range []string{"if", "car"} { // a keyword and a variable are known by their names
		imports(t, s, name, a, name, api.OK)
		imports(t, s, name, b, name, api.OK)
	}
	imports(t, s, "let", a, "let", api.OK)
	imports(t, s, "let", b, "let", api.ErrTwice)
	imports(t, s, "let", a, "let", api.OK)
}

// P19.2: New answers an empty scope, of numbers from 1 on.
func TestNew(t *testing.T) {
	for _, number := range []int{0, -1, -2, math.MinInt} {
		if s, e := New(number); e != api.ErrArg || s != nil {
			t.Errorf("New(%d): error %d", number, e)
		}
	}
	for _, number := range []int{1, 2, 17, math.MaxInt} {
		s, e := New(number)
		if e != api.OK || len(s.Names()) > 0 {
			t.Fatalf("New(%d): %q, error %d", number, s.Names(), e)
		}
		fails(t, s, read("(define x 1)"), api.ErrBound, 0)
		fails(t, s, read("'x"), api.ErrBound, 0)
		adds(t, s, "1", "'1")
		s = numbered(t, number)
		name := "#" + strconv.Itoa(number) + "/x"
		adds(t, s, "(define x 1) (lambda (y) x)", "(define "+name+" '1) (lambda (#1:y) "+name+")")
	}
}

// P19.2: what may be imported under which name.
func TestImport(t *testing.T) {
	base, _ := Base()
	s, _ := New(3)
	for _, name := range []string{"if", "car", "let", "list", "define", "syntax-rules", "define-syntax"} {
		imports(t, s, name, base, name, api.OK)
		imports(t, s, name, base, name, api.OK)
		imports(t, s, "my-"+name, base, name, api.OK)
		imports(t, s, "my-"+name, s, name, api.OK)
		imports(t, s, name, s, "my-"+name, api.OK)
		imports(t, s, name, base, "cdr", api.ErrTwice)
		imports(t, s, name, base, "when", api.ErrTwice)
		imports(t, s, name, base, "begin", api.ErrTwice)
		imports(t, s, "free", base, "no "+name, api.ErrBound)
		imports(t, s, name, base, "nobody", api.ErrBound)
	}
	adds(t, s, "(my-define x (my-if 1 (my-car 2) (my-let ((x 3)) x)))", "(define #3/x (if '1 (call car '2) (call (lambda (#1:x) #1:x) '3)))")
	imports(t, s, "x", s, "x", api.OK)
	imports(t, s, "y", s, "x", api.OK)
	imports(t, s, "x", s, "car", api.ErrTwice)
	adds(t, s, "(my-list x y)", "(call list #3/x #3/x)")
	fails(t, s, read("(define y 1)"), api.ErrForms, 0)
	other, _ := New(4)
	imports(t, other, "z", s, "y", api.OK)
	imports(t, other, "list", s, "my-list", api.OK)
	imports(t, other, "x", s, "nobody", api.ErrBound)
	hasNames(t, other, "list", "z")
	adds(t, other, "(list z)", "(call list #3/x)")
	fails(t, s, read("z"), api.ErrBound, 0)
}

// P19.2: arguments that Import does not take.
func TestImportArguments(t *testing.T) {
	base, _ := Base()
	s, _ := New(1)
	imports(t, s, "a", nil, "car", api.ErrArg)
	imports(t, s, "\xff", base, "car", api.ErrArg)
	imports(t, s, "a", base, "car\xff", api.ErrArg)
	imports(t, s, "a", base, "\xed\xa0\x80", api.ErrArg)
	imports(t, s, "\xff", base, "nobody", api.ErrArg)
	imports(t, s, "\uFFFD", base, "\uFFFD", api.ErrBound)
	imports(t, s, "", base, "", api.ErrBound)
	imports(t, s, "", base, "car", api.OK)
	imports(t, s, "\uFFFD a\x00", base, "car", api.OK)
	hasNames(t, s, "", "\uFFFD a\x00")
	list, _, e := s.Forms([]api.Datum{sym(""), sym("\uFFFD a\x00")})
	if e != api.OK || toldAll(list) != "car car" {
		t.Errorf("%s, error %d", toldAll(list), e)
	}
}

// P19.2: a macro that is imported means what it meant: its names are those of its own scope, what it defines is the user's.
func TestImportedMacros(t *testing.T) {
	a := numbered(t, 1)
	adds(t, a, "(define x 1) (define-syntax get (syntax-rules (x) ((_) x) ((_ x) 'x) ((_ n) (define n x)) ((_ n m) (begin (define hidden n) (define (m) (list hidden x later)))))) (define-syntax make (syntax-rules () ((_ n) (define-syntax n (syntax-rules () ((_ a) (list a x)))))))", "(define #1/x '1)")
	b, _ := New(2)
	imports(t, b, "get", a, "get", api.OK)
	imports(t, b, "make", a, "make", api.OK)
	fails(t, b, read("(get 1 f)"), api.ErrBound, 0)
	adds(t, a, "(define later 2)", "(define #1/later '2)")
	adds(t, b, "(get) (get y) (get 5 f) y", "#1/x (define #2/y #1/x) (define #1:hidden '5) (define #2/f (lambda () (call list #1:hidden #1/x #1/later))) #2/y")
	adds(t, b, "(make m) (m y)", "(call list #2/y #1/x)")
	imports(t, b, "lambda", a, "lambda", api.OK)
	adds(t, b, "(lambda (x list) (m x))", "(lambda (#2:x #3:list) (call list #2:x #1/x))")
	imports(t, b, "w", a, "x", api.OK)
	adds(t, b, "(get w) (get x) x", "'x (define #2/x #1/x) #2/x")
	c, _ := New(3)
	imports(t, c, "m", b, "m", api.OK)
	imports(t, c, "x", b, "y", api.OK)
	adds(t, c, "(m x) (m 1)", "(call list #2/y #1/x) (call list '1 #1/x)")
	imports(t, c, "get", a, "get", api.OK)
	adds(t, c, "(get z) z", "(define #3/z #1/x) #3/z")
}

// P19.2: Names has symbols alone, by their bytes.
func TestNames(t *testing.T) {
	base, _ := Base()
	s, _ := New(1)
	hasNames(t, s)
	for _, name := range []string{"b", "a", "é", "Z", "", "aa", "a-", "\U00010000", "\uFFFD", "z"} {
		imports(t, s, name, base, "car", api.OK)
	}
	hasNames(t, s, "", "Z", "a", "a-", "aa", "b", "z", "é", "\uFFFD", "\U00010000")
	s = scope(t)
	before := len(s.Names())
	adds(t, s, "(define-syntax def (syntax-rules () ((_ n) (begin (define n 1) (define hidden 2) (define-syntax secret (syntax-rules ())))))) (def mine)", "(define #1/mine '1) (define #1:hidden '2)")
	adds(t, s, "(lambda (local) (define inner 1) local)", "(lambda (#2:local) (letrec (#3:inner) '1 #2:local))")
	names := s.Names()
	if len(names) != before+2 || !slices.IsSorted(names) || !slices.Contains(names, "def") || !slices.Contains(names, "mine") {
		t.Errorf("%d names, and %d before: %q", len(names), before, names)
	}
}

// P19.4: a nil scope for each call.
func TestNilScope(t *testing.T) {
	var none *Scope
	base, _ := Base()
	if e := none.Import("a", base, "car"); e != api.ErrArg {
		t.Errorf("Import: error %d", e)
	}
	if e := none.Import("a", none, "car"); e != api.ErrArg {
		t.Errorf("Import of nil: error %d", e)
	}
	if e := base.Import("a", none, "car"); e != api.ErrArg {
		t.Errorf("Import from nil: error %d", e)
	}
	for _, forms := range [][]api.Datum{nil, {}, read("1"), read("() ()"), {empty(), {}}} {
		if list, at, e := none.Forms(forms); e != api.ErrArg || at != 0 || len(list) > 0 {
			t.Errorf("Forms: %d cores, error %d at %d", len(list), e, at)
		}
	}
	if names := none.Names(); len(names) > 0 {
		t.Errorf("Names: %q", names)
	}
}

// R1: a scope that no call has made.
func TestZeroScope(t *testing.T) {
	var s Scope
	base, _ := Base()
	hasNames(t, &s)
	fails(t, &s, read("(define x 1)"), api.ErrBound, 0)
	imports(t, &s, "a", base, "car", api.OK)
	imports(t, base, "b", &s, "a", api.OK)
	imports(t, base, "c", &s, "c", api.ErrBound)
	adds(t, &s, "1 a", "'1 car")
}

// P19.3: no forms.
func TestNoForms(t *testing.T) {
	for _, forms := range [][]api.Datum{nil, {}, read("(begin)"), read("(define-syntax m (syntax-rules ()))")} {
		if list, at, e := scope(t).Forms(forms); e != api.OK || at != 0 || len(list) > 0 {
			t.Errorf("%d cores, error %d at %d", len(list), e, at)
		}
	}
}
