package scalar

import (
	"strings"

	"grille/api"
)

// Single: a text between single quotes.
func Single(s string) (string, api.Errno) {
	if !oneLine(s) {
		return "", api.ErrQuote
	}
	return "'" + strings.ReplaceAll(s, "'", "''") + "'", api.OK
}

// Unsingle: the text that stands between single quotes.
func Unsingle(s string) (string, api.Errno) {
	if len(s) < 2 {
		return "", api.ErrQuote
	}
	// Whatever stands at both ends: a text is the answer only if s is what it is quoted as.
	inner := strings.ReplaceAll(s[1:len(s)-1], "''", "'")
	if again, e := Single(inner); e != api.OK || again != s {
		return "", api.ErrQuote
	}
	return inner, api.OK
}
