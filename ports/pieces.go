package ports

import (
	"unicode/utf8"

	"sextant/api"
)

// pieceSize: how many bytes of a text codec is handed at once, so that no character is cut.
func pieceSize(s string) int {
	if len(s) <= api.MaxBytes {
		return len(s)
	}
	for back := range utf8.UTFMax {
		if size := api.MaxBytes - back; utf8.RuneStart(s[size]) {
			return size
		}
	}
	return api.MaxBytes // a character has fewer bytes behind its first one: no character stands here
}
