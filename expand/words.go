package expand

// keywords are the special forms' own.
const keywords = "quote if set! begin lambda letrec* define define-syntax syntax-rules"

// primitives are the machine's procedures.
const primitives = `
eq? eqv? equal?
pair? null? symbol? string? char? boolean? vector? bytevector? procedure? number? integer? rational? condition? eof-object?
cons car cdr set-car! set-cdr!
+ * - / = < > <= >= div mod numerator denominator expt
bitwise-and bitwise-ior bitwise-xor bitwise-not bitwise-arithmetic-shift
number->string string->number
char->integer integer->char char-upcase char-downcase char-alphabetic?
string-length string-ref substring string-append string->list list->string string->symbol symbol->string
string=? string<? string-upcase string-downcase
vector make-vector vector-ref vector-set! vector-length vector->list list->vector
make-bytevector bytevector-u8-ref bytevector-u8-set! bytevector-length utf8->string string->utf8
make-rtd record-constructor record-predicate record-accessor record-mutator
make-condition condition-who condition-message condition-irritants violation? error?
write display newline read-char peek-char read eof-object
file-exists? delete-file file->string string->file
apply values call-with-values dynamic-wind call/cc with-exception-handler raise raise-continuable
exit
`
