package write

import (
	"strconv"
	"strings"

	"sextant/chars"
)

func (w *writer) character(c rune) {
	if w.plain {
		w.WriteRune(c)
		return
	}
	w.WriteByte('#')
	name := nameOf(c)
	switch {
	case name != "":
		w.WriteByte('\\')
		w.WriteString(name)
	case chars.Blank(c) || isControl(c):
		w.code(c)
	default:
		w.WriteByte('\\')
		w.WriteRune(c)
	}
}

// nameOf is the name of a character, or nothing if it has none.
func nameOf(c rune) string {
	switch c {
	case 0:
		return "nul"
	case 7:
		return "alarm"
	case 8:
		return "backspace"
	case 9:
		return "tab"
	case 10:
		return "newline"
	case 11:
		return "vtab"
	case 12:
		return "page"
	case 13:
		return "return"
	case 27:
		return "esc"
	case 32:
		return "space"
	case 127:
		return "delete"
	}
	return ""
}

func isControl(c rune) bool {
	return c < 32 || c >= 127 && c <= 159
}

// code writes a character by its number, without the end that strings and symbols ask for.
func (w *writer) code(c rune) {
	w.WriteString(`\x`)
	w.WriteString(strconv.FormatInt(int64(c), 16))
}

func (w *writer) quotation(text string) {
	if w.plain {
		w.WriteString(text)
		return
	}
	w.WriteByte('"')
	for _, c := range text {
		w.inString(c)
	}
	w.WriteByte('"')
}

func (w *writer) inString(c rune) {
	switch {
	case c >= 7 && c <= 13:
		w.WriteByte('\\')
		w.WriteByte("abtnvfr"[c-7])
	case c == '"' || c == '\\':
		w.WriteByte('\\')
		w.WriteRune(c)
	case isControl(c) || c == 0x2028 || c == 0xFEFF:
		w.code(c)
		w.WriteByte(';')
	default:
		w.WriteRune(c)
	}
}

func (w *writer) symbol(name string) {
	switch {
	case w.plain || name == "+" || name == "-" || name == "...":
		w.WriteString(name)
	case name == "":
		w.WriteString("||")
	case strings.HasPrefix(name, "->"):
		w.WriteString("->")
		w.inSymbol(name[len("->"):], false)
	default:
		w.inSymbol(name, true)
	}
}

// inSymbol writes characters of a symbol; first says whether it begins with them.
func (w *writer) inSymbol(name string, first bool) {
	for _, c := range name {
		if isFirst(c) || !first && isRest(c) {
			w.WriteRune(c)
		} else {
			w.code(c)
			w.WriteByte(';')
		}
		first = false
	}
}

// isFirst: may a symbol begin with it?
func isFirst(c rune) bool {
	return chars.Letter(c) || strings.ContainsRune("!$%&*/:<=>?^_~", c) || c > 127 && !chars.Blank(c)
}

// isRest: may it stand in a symbol, but not at its beginning?
func isRest(c rune) bool {
	return c >= '0' && c <= '9' || strings.ContainsRune("+-.@", c)
}
