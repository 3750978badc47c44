package ports

import (
	"strings"
	"unicode/utf8"
)

// lineEnd alone ends a line: what else may end one the transcoder has made it, if its eol style is one that does so.
const lineEnd = "\n"

// text is what is left to be read; it is of characters.
type text struct{ left string }

func (t *text) isOver() bool {
	return t.left == ""
}

func (t *text) character() rune {
	r, _ := utf8.DecodeRuneInString(t.left)
	return r
}

// line is what stands ahead of the line end, or all, if there is none.
func (t *text) line() (line string, ended bool) {
	line, _, ended = strings.Cut(t.left, lineEnd)
	return line, ended
}

func (t *text) passCharacter() {
	_, width := utf8.DecodeRuneInString(t.left)
	t.pass(width)
}

func (t *text) passLine() {
	_, t.left, _ = strings.Cut(t.left, lineEnd)
}

func (t *text) pass(bytes int) {
	t.left = t.left[bytes:]
}
