package scalar

import (
	"unicode/utf8"

	"grille/api"
	"grille/text"
)

// named: characters that are written as a backslash and a letter. All others that may be stand as they are.
var named = [...]struct {
	char   rune
	letter byte
}{
	{'"', '"'}, {'\\', '\\'},
	{0, '0'}, {7, 'a'}, {8, 'b'}, {9, 't'}, {10, 'n'}, {11, 'v'}, {12, 'f'}, {13, 'r'}, {27, 'e'},
	{0x85, 'N'}, {0xa0, '_'}, {0x2028, 'L'}, {0x2029, 'P'},
}

// Quote: a text between double quotes.
func Quote(s string) string {
	if !utf8.ValidString(s) {
		return ""
	}
	out := []byte{'"'}
	for _, r := range s {
		out = appendQuoted(out, r)
	}
	return string(append(out, '"'))
}

func appendQuoted(out []byte, r rune) []byte {
	for _, n := range named {
		if n.char == r {
			return append(out, '\\', n.letter)
		}
	}
	switch {
	case text.May(r):
		return utf8.AppendRune(out, r)
	case r < 0x100:
		return appendHex(append(out, '\\', 'x'), r, 2)
	case r < 0x10000:
		return appendHex(append(out, '\\', 'u'), r, 4)
	}
	return appendHex(append(out, '\\', 'U'), r, 8)
}

func appendHex(out []byte, r rune, digits int) []byte {
	for place := digits - 1; place >= 0; place-- {
		out = append(out, "0123456789abcdef"[r>>(4*place)&15])
	}
	return out
}

// Unquote: the text that stands between double quotes.
func Unquote(s string) (string, api.Errno) {
	if !utf8.ValidString(s) || len(s) < 2 || s[0] != '"' || s[len(s)-1] != '"' {
		return "", api.ErrQuote
	}
	inner := s[1 : len(s)-1]
	var out []byte
	for at := 0; at < len(inner); at++ {
		switch b := inner[at]; b {
		case '"', '\n':
			return "", api.ErrQuote
		case '\\':
			r, size := escaped(inner[at+1:])
			if size == 0 {
				return "", api.ErrQuote
			}
			out = utf8.AppendRune(out, r)
			at += size
		default:
			out = append(out, b)
		}
	}
	return string(out), api.OK
}

// escaped: the character that s, which stands behind a backslash, begins with, and the bytes that it takes: 0, if there is none.
func escaped(s string) (rune, int) {
	if s == "" {
		return 0, 0
	}
	switch s[0] {
	case '/':
		return '/', 1
	case 'x':
		return numbered(s, 2)
	case 'u':
		return numbered(s, 4)
	case 'U':
		return numbered(s, 8)
	}
	for _, n := range named {
		if n.letter == s[0] {
			return n.char, 1
		}
	}
	return 0, 0
}

// numbered: likewise, of a letter and so many hexadecimal digits.
func numbered(s string, digits int) (rune, int) {
	size := 1 + digits
	if len(s) < size {
		return 0, 0
	}
	n := uint32(0)
	for _, b := range []byte(s[1:size]) {
		d, ok := digit(b)
		if !ok {
			return 0, 0
		}
		n = n<<4 | d
	}
	if !utf8.ValidRune(rune(n)) { // the greatest numbers are below 0 as a rune, so none of them is one
		return 0, 0
	}
	return rune(n), size
}

func digit(b byte) (uint32, bool) {
	switch {
	case b >= '0' && b <= '9':
		return uint32(b - '0'), true
	case b >= 'a' && b <= 'f':
		return uint32(b-'a') + 10, true
	case b >= 'A' && b <= 'F':
		return uint32(b-'A') + 10, true
	}
	return 0, false
}
