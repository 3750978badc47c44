package chars

import "strings"

// Upcase: a text in capitals.
func Upcase(s string) string {
	var b strings.Builder
	for _, r := range s {
		if r == sharpS {
			b.WriteString("SS")
		} else {
			b.WriteRune(Up(r))
		}
	}
	return b.String()
}

// Downcase: a text in small letters.
func Downcase(s string) string {
	var b strings.Builder
	ahead := false
	for i, r := range s {
		b.WriteRune(downIn(s, i, r, ahead))
		ahead = Letter(r)
	}
	return b.String()
}

// Fold: a text as it is compared whatever the case.
func Fold(s string) string {
	var b strings.Builder
	for _, r := range s {
		if r == sharpS {
			b.WriteString("ss")
		} else {
			b.WriteRune(Down(Up(r)))
		}
	}
	return b.String()
}

// Titlecase: each word's first letter a capital, the others small.
func Titlecase(s string) string {
	var b strings.Builder
	ahead := false
	for i, r := range s {
		switch {
		case !Letter(r):
			b.WriteRune(r)
		case ahead:
			b.WriteRune(downIn(s, i, r, ahead))
		case r == sharpS:
			b.WriteString("Ss")
		default:
			b.WriteRune(Up(r))
		}
		ahead = Letter(r)
	}
	return b.String()
}

// downIn answers what Downcase makes of the character r at byte i of s. The neighbours matter for sigma alone, which has a form of its own at the end of a word; ahead says whether the character before r is a letter.
func downIn(s string, i int, r rune, ahead bool) rune {
	if r == capitalSigma && ahead && !beginsWithLetter(s[i+len("Σ"):]) {
		return finalSigma
	}
	return Down(r)
}

func beginsWithLetter(s string) bool {
	for _, r := range s {
		return Letter(r)
	}
	return false
}
