package datum

import (
	"strings"

	"sextant/chars"
)

// symbol is the name that a whole token is.
func symbol(word string) string {
	var name strings.Builder
	r := reader{text: word}
	switch {
	case word == "+", word == "-", word == "...":
		return strings.Clone(word)
	case r.take("->"):
		name.WriteString("->")
	}
	for r.rest() != "" {
		c := r.next()
		if c == '\\' {
			must(r.take("x"))
			c = r.digitsThenEnd()
		} else {
			must(isFirst(c) || name.Len() > 0 && isRest(c))
		}
		name.WriteRune(c)
	}
	return name.String()
}

// isFirst: may a symbol begin with it?
func isFirst(c rune) bool {
	return chars.Letter(c) || strings.ContainsRune("!$%&*/:<=>?^_~", c) || c > 127 && !chars.Blank(c)
}

// isRest: may it stand in a symbol, but not at its beginning?
func isRest(c rune) bool {
	return c >= '0' && c <= '9' || strings.ContainsRune("+-.@", c)
}

// quotation reads the text of a string, and its end, behind the mark that it begins with.
func (r *reader) quotation() string {
	var text strings.Builder
	for !r.take(`"`) {
		c := r.next()
		switch c {
		case '\\':
			c = r.escaped()
		case '\r':
			if !r.take("\n") {
				r.take("\u0085")
			}
			c = '\n'
		case '\u0085', '\u2028':
			c = '\n'
		}
		text.WriteRune(c)
	}
	return text.String()
}

// escaped reads what stands behind a backslash in a string.
func (r *reader) escaped() rune {
	c := r.next()
	switch c {
	case 'a':
		return 7
	case 'b':
		return 8
	case 't':
		return 9
	case 'n':
		return 10
	case 'v':
		return 11
	case 'f':
		return 12
	case 'r':
		return 13
	case 'x':
		return r.digitsThenEnd()
	}
	must(c == '"' || c == '\\')
	return c
}

// digitsThenEnd reads the digits of a character's number, and the ; behind them.
func (r *reader) digitsThenEnd() rune {
	digits, _, ended := strings.Cut(r.rest(), ";")
	must(ended)
	r.at += len(digits) + len(";")
	return numbered(digits)
}
