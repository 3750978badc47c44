package datum

import (
	"strings"
	"unicode/utf8"

	"sextant/chars"
)

// skip passes the blanks and remarks that stand here.
func (r *reader) skip() {
	for {
		c, width := utf8.DecodeRuneInString(r.rest())
		switch {
		case chars.Blank(c):
			r.at += width
		case c == ';':
			r.skipLine()
		case r.take("#|"):
			r.skipNest()
		case r.take("#;"):
			r.skipDatum()
		default:
			return
		}
	}
}

func (r *reader) skipLine() {
	length := strings.IndexAny(r.rest(), "\n\r\u0085\u2028")
	if length < 0 {
		length = len(r.rest())
	}
	r.at += length
}

// skipNest passes the rest of a remark of which the beginning has been passed, and those inside it.
func (r *reader) skipNest() {
	for open := 1; open > 0; {
		switch {
		case r.take("#|"):
			open++
		case r.take("|#"):
			open--
		default:
			r.next()
		}
	}
}

// skipDatum passes a datum that must be right in its form, but may be as large as it likes.
func (r *reader) skipDatum() {
	from, large := r.at, r.large
	r.skip()
	r.datum()
	must(utf8.ValidString(r.text[from:r.at]))
	r.large = large
}
