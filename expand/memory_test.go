package expand

import (
	"slices"
	"testing"
	"unsafe"

	"sextant/api"
)

// roomyList is a copy with spare room, which is filled with something.
func roomyList[T any](list []T, filler T) []T {
	return append(slices.Clone(list), filler, filler, filler)[:len(list)]
}

// roomy is a deep copy of which all lists have spare room, and all texts are of memory that can be written over.
func roomy(d api.Datum) api.Datum {
	re, im := &d.Num.Re, &d.Num.Im
	for _, words := range []*[]uint32{&re.Top, &re.Bot, &im.Top, &im.Bot} {
		*words = roomyList(*words, 5)
	}
	d.Text, d.Raw, d.List = soft(d.Text), roomyList(d.Raw, 5), roomyData(d.List)
	return d
}

func roomyData(data []api.Datum) []api.Datum {
	out := roomyList(data, sym("room"))
	for i, d := range out {
		out[i] = roomy(d)
	}
	return out
}

// soft is a copy of a text that overwriteText may write over.
func soft(text string) string {
	bytes := []byte(text)
	return unsafe.String(unsafe.SliceData(bytes), len(bytes))
}

// overwriteText is for texts alone that are new memory.
func overwriteText(text string) {
	overwrite(unsafe.Slice(unsafe.StringData(text), len(text)), '?')
}

func sameRoom[T any](a, b []T, same func(a, b T) bool) bool {
	return len(a) == len(b) && slices.EqualFunc(a[:cap(a)], b[:cap(b)], same)
}

func is[T comparable](a, b T) bool { return a == b }

func sameRoomDatum(a, b api.Datum) bool {
	x, y := a.Num, b.Num
	return alike(a, b) && sameRoom(x.Re.Top, y.Re.Top, is) && sameRoom(x.Re.Bot, y.Re.Bot, is) && sameRoom(x.Im.Top, y.Im.Top, is) && sameRoom(x.Im.Bot, y.Im.Bot, is) && sameRoom(a.Raw, b.Raw, is) && sameRoom(a.List, b.List, sameRoomDatum)
}

// piece is memory that a list or a text has, from its first byte to the one behind its last.
type piece struct{ from, to uintptr }

func pieceOf[T any](list []T) piece {
	from := uintptr(unsafe.Pointer(unsafe.SliceData(list)))
	return piece{from, from + uintptr(cap(list))*unsafe.Sizeof(*new(T))}
}

func textPiece(s string) piece { return pieceOf(unsafe.Slice(unsafe.StringData(s), len(s))) }

func textPieces(list []string) []piece {
	out := []piece{pieceOf(list)}
	for _, text := range list {
		out = append(out, textPiece(text))
	}
	return out
}

func dataPieces(data []api.Datum) []piece {
	out := []piece{pieceOf(data)}
	for _, d := range data {
		out = append(out, datumPieces(d)...)
	}
	return out
}

func datumPieces(d api.Datum) []piece {
	out := []piece{textPiece(d.Text), pieceOf(d.Raw), pieceOf(d.Num.Re.Top), pieceOf(d.Num.Re.Bot), pieceOf(d.Num.Im.Top), pieceOf(d.Num.Im.Bot)}
	return append(out, dataPieces(d.List)...)
}

// corePieces are all of a list of cores, room included.
func corePieces(cores []api.Core) []piece {
	out := []piece{pieceOf(cores)}
	for _, c := range cores {
		out = slices.Concat(out, []piece{textPiece(c.Name)}, datumPieces(c.Value), textPieces(c.Params), corePieces(c.Args))
	}
	return out
}

// apart: does no piece of memory stand in two of them?
func apart(lists ...[]piece) bool {
	all := slices.DeleteFunc(slices.Concat(lists...), func(p piece) bool { return p.from == p.to })
	slices.SortFunc(all, func(a, b piece) int { return int(a.from) - int(b.from) })
	for i := 1; i < len(all); i++ {
		if all[i].from < all[i-1].to {
			return false
		}
	}
	return true
}

// overwrite writes over a list, room included.
func overwrite[T any](list []T, with T) {
	for i := range list[:cap(list)] {
		list[:cap(list)][i] = with
	}
}

// spoilData writes over all lists, room included.
func spoilData(data []api.Datum) {
	for _, d := range data[:cap(data)] {
		for _, words := range [][]uint32{d.Num.Re.Top, d.Num.Re.Bot, d.Num.Im.Top, d.Num.Im.Bot} {
			overwrite(words, 99)
		}
		overwrite(d.Raw, 99)
		spoilData(d.List)
	}
	overwrite(data, sym("spoilt"))
}

// spoilTexts writes over the texts of soft data.
func spoilTexts(data []api.Datum) {
	for _, d := range data {
		overwriteText(d.Text)
		spoilTexts(d.List)
	}
}

// spoilCores writes over all of an answer, names included.
func spoilCores(cores []api.Core) {
	for _, c := range cores[:cap(cores)] {
		overwriteText(c.Name)
		for _, name := range c.Params {
			overwriteText(name)
		}
		spoilTexts([]api.Datum{c.Value})
		spoilData([]api.Datum{c.Value})
		overwrite(c.Params, "spoilt")
		spoilCores(c.Args)
	}
	overwrite(cores, api.Core{Op: 77, Name: "spoilt"})
}

// somePrograms have each kind of form and of constant, and come to something, or to an error.
func somePrograms() []string {
	return []string{
		"abc", `(define first "text") (define second) (define (third abc . def) (list abc 12/34 -5+67i #vu8(1 2 3) #\c #t "text" def)) 'abc '(abc "text" #vu8(4 5) #(abc 99999999999999999999) (12/34 . #())) '#() '() first`,
		"(define-syntax mac (syntax-rules (else) ((_ else abc) (quote (abc other \"text\" #vu8(1 2) 12/34))) ((_ abc ...) (list abc ... 'abc ... 12345678901234567890 \"more\" #vu8(7))) ((_ . abc) 'abc))) (mac else (one \"two\" #vu8(3) 4/5)) (mac 1/2 \"x\" car)",
		"(let loop ((abc 1) (def 2)) (define inner abc) (set! abc (if def inner)) (begin (or abc def 1) (loop def abc)))",
		"(letrec* ((abc (lambda def (car def)))) abc)",
		"(define abc 1) nobody", "(define abc 1) (if)", "'\"text\" (lambda (abc abc) 1)",
	}
}

// R4: what is handed in is not changed, room included; R5: another scope answers the same.
func TestFormsAreLeft(t *testing.T) {
	for _, program := range somePrograms() {
		want, place, wantError := scope(t).Forms(read(program))
		in, kept := roomyData(read(program)), roomyData(read(program))
		for range 2 {
			got, at, e := scope(t).Forms(in)
			if e != wantError || at != place || !alikeCores(got, want) {
				t.Errorf("%s: another answer with other room, or at another time", program)
			}
			if !sameRoom(in, kept, sameRoomDatum) {
				t.Errorf("%s: what was handed in is changed", program)
			}
		}
	}
}

// R4: an answer shares memory with nothing that was handed in, with no other answer, and with no other part of itself.
func TestAnswersAreNew(t *testing.T) {
	for _, program := range somePrograms() {
		in := roomyData(read(program))
		a, _, _ := scope(t).Forms(in)
		b, _, _ := scope(t).Forms(in)
		if !apart(dataPieces(in), corePieces(a), corePieces(b)) {
			t.Errorf("%s: an answer shares memory with what was handed in, with another answer or within itself", program)
		}
	}
	shared := one("(abc \"text\" #vu8(1 2) 3/4)")
	forms := []api.Datum{list(sym("quote"), shared), list(sym("quote"), shared), list(sym("list"), shared.List[1].List[0], list(sym("quote"), vectorDatum(shared, shared)))}
	got, _, e := scope(t).Forms(forms)
	if e != api.OK || len(got) != 3 || !apart(dataPieces(forms[:1]), corePieces(got)) {
		t.Errorf("error %d, %d cores: an answer shares memory where what was handed in does", e, len(got))
	}
	_, first := Base()
	_, second := Base()
	if len(first) < 30 || !apart(corePieces(first), corePieces(second)) {
		t.Error("Base: answers share memory")
	}
}

// R4: what a scope keeps is its own, whatever comes of what was handed in and of what was answered.
func TestScopeKeepsItsOwn(t *testing.T) {
	program := "(define mine 1) (define-syntax mac (syntax-rules (else) ((_ else abc) '(abc else \"text\" #vu8(1 2) 12/34)) ((_ \"text\" #vu8(1 2) 12/34) (list mine '#(\"text\" #vu8(1 2)) \"text\" #vu8(3) 12/34))))"
	use := "(mac else mine) (mac \"text\" #vu8(1 2) 12/34) mine"
	s := scope(t)
	in := roomyData(read(program))
	cores, _, e := s.Forms(in)
	names := s.Names()
	if e != api.OK {
		t.Fatalf("error %d", e)
	}
	want, _, _ := s.Forms(read(use))
	wantText := toldAll(want)
	spoilTexts(in)
	spoilData(in)
	spoilCores(cores)
	for range 3 {
		uses := roomyData(read(use))
		got, _, e := s.Forms(uses)
		if e != api.OK || toldAll(got) != wantText || !slices.Equal(s.Names(), names) {
			t.Errorf("got  %s\nwant %s", toldAll(got), wantText)
		}
		if !apart(corePieces(want), corePieces(got)) {
			t.Error("answers share memory with what the scope keeps")
		}
		spoilTexts(uses)
		spoilData(uses)
		spoilCores(got)
	}
	spoilCores(want)
	adds(t, s, "mine (define other (mac else 5))", "#1/mine (define #1/other '(5 else \"text\" #vu8(1 2) 6/17))")
}

// R4: the names that Import is handed, and those that Names answers.
func TestNamesAreNew(t *testing.T) {
	base, _ := Base()
	s, _ := New(1)
	name, of := soft("imported"), soft("car")
	imports(t, s, name, base, of, api.OK)
	overwriteText(name)
	overwriteText(of)
	a, b := s.Names(), base.Names()
	again := base.Names()
	if !slices.Equal(a, []string{"imported"}) || !apart(textPieces(a), textPieces(b), textPieces(again)) {
		t.Errorf("Names: %q, or answers share memory", a)
	}
	overwrite(b, "spoilt")
	hasNames(t, base, again...)
	adds(t, s, "imported", "car")
}
