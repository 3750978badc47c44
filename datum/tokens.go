package datum

import (
	"strconv"
	"strings"
	"unicode/utf8"

	"sextant/api"
	"sextant/chars"
	"sextant/exact"
)

func delimits(c rune) bool {
	return chars.Blank(c) || strings.ContainsRune(`()[]";`, c)
}

// token: what s begins with, ahead of the next delimiter.
func token(s string) string {
	n := 0
	for n < len(s) {
		c, width := utf8.DecodeRuneInString(s[n:])
		if delimits(c) {
			break
		}
		n += width
		if c == '\\' {
			n += tied(s[n:])
		}
	}
	return s[:n]
}

// tied: how many bytes right behind a backslash belong to its token, delimiters or not. A ; does so only as the end of digits: else it would take the remark behind a character for a part of it.
func tied(s string) int {
	_, n := utf8.DecodeRuneInString(s)
	digits := 0
	for n+digits < len(s) && isHex(s[n+digits]) {
		digits++
	}
	n += digits
	if digits > 0 && strings.HasPrefix(s[n:], ";") {
		n++
	}
	return n
}

func isHex(c byte) bool {
	return c >= '0' && c <= '9' || c >= 'a' && c <= 'f' || c >= 'A' && c <= 'F'
}

// word reads a token of which the end is a delimiter: a Boolean, a character, a number or a symbol.
func (r *reader) word() api.Datum {
	word := token(r.rest())
	must(word != "")
	r.at += len(word)
	switch word {
	case "#t", "#T":
		return api.Datum{Kind: api.Bool, N: 1}
	case "#f", "#F":
		return api.Datum{Kind: api.Bool}
	}
	if name, ok := strings.CutPrefix(word, `#\`); ok {
		return api.Datum{Kind: api.Char, N: int(character(name))}
	}
	number, e := exact.Read(word, 10)
	switch e {
	case api.OK:
		return api.Datum{Kind: api.Number, Num: number}
	case api.ErrLarge:
		r.large = true
		return api.Datum{} // nobody gets it: it only stands for what has the right form
	}
	return api.Datum{Kind: api.Symbol, Text: symbol(word)}
}

// character is the one that stands behind #\, by itself, by its name or by its number.
func character(name string) rune {
	if utf8.RuneCountInString(name) == 1 {
		c, _ := utf8.DecodeRuneInString(name)
		return c
	}
	if c, ok := named(name); ok {
		return c
	}
	digits, ok := strings.CutPrefix(name, "x")
	must(ok)
	return numbered(digits)
}

func named(name string) (c rune, ok bool) {
	switch name {
	case "nul":
		return 0, true
	case "alarm":
		return 7, true
	case "backspace":
		return 8, true
	case "tab":
		return 9, true
	case "linefeed", "newline":
		return 10, true
	case "vtab":
		return 11, true
	case "page":
		return 12, true
	case "return":
		return 13, true
	case "esc":
		return 27, true
	case "space":
		return 32, true
	case "delete":
		return 127, true
	}
	return 0, false
}

// numbered is the character with the number that one to eight hexadecimal digits tell.
func numbered(digits string) rune {
	n, err := strconv.ParseUint(digits, 16, 32)
	must(err == nil && len(digits) <= 8 && isCharacter(int(n)))
	return rune(n)
}
