// Package text is layer 1: see shared/doc/01-text.md.
package text

import (
	"strings"

	"grille/api"
)

// Codes of texts.
const (
	Utf8     = 0
	Little16 = 1
	Big16    = 2
	Little32 = 3
	Big32    = 4
)

// Numbers that part the characters from what is none, and those of one 16-bit unit from those of two.
const (
	firstHigh = 0xd800 // first halves of pairs begin here
	firstLow  = 0xdc00 // second halves of pairs begin here
	lastLow   = 0xdfff
	mark      = 0xfeff
	firstPair = 0x10000
	last      = 0x10ffff
)

// isCharacter takes 32 bits without a sign, so that no number of a text is cut before it is judged.
func isCharacter(n uint32) bool {
	return n < firstHigh || n > lastLow && n <= last
}

// May: may a character be in a text?
func May(r rune) bool {
	switch {
	case r == '\t', r == '\n', r == '\r', r == 0x85:
		return true
	case r >= ' ' && r <= '~':
		return true
	case r >= 0xa0 && r <= 0xfffd:
		return isCharacter(uint32(r)) && r != mark
	}
	return r >= firstPair && r <= last
}

// Clean: a text of characters, with breaks of one kind.
func Clean(l []rune) (string, api.Errno) {
	var out strings.Builder
	for i, r := range l {
		if !May(r) {
			return "", api.ErrChar
		}
		switch {
		case r != '\r':
			out.WriteRune(r)
		case i+1 == len(l) || l[i+1] != '\n': // else the 10 that follows is the one break of both
			out.WriteByte('\n')
		}
	}
	return out.String(), api.OK
}

// Decode: a text of bytes.
func Decode(b []byte) (string, api.Errno) {
	l, e := Runes(b)
	if e != api.OK {
		return "", e
	}
	return Clean(l)
}
