package lines

import (
	"slices"
	"strings"
	"unicode/utf8"

	"grille/api"
	"grille/text"
)

// textSize: how many of the pieces behind a line of that indent, that has a bar, are its text.
func textSize(pieces []string, indent int) int {
	for i, p := range pieces {
		if !isBlank(p) && Indent(p) <= indent {
			return i
		}
	}
	return len(pieces)
}

// textOf: the text that these pieces are, without the blanks that the first one that is not Blank begins with.
func textOf(pieces []string) (string, api.Errno) {
	pieces = pieces[:withoutTail(pieces)]
	off := firstIndent(pieces)
	var b strings.Builder
	for _, p := range pieces {
		if !isRight(p) {
			return "", api.ErrForm
		}
		if !isBlank(p) {
			if Indent(p) < off {
				return "", api.ErrIndent
			}
			b.WriteString(p[off:])
		}
		b.WriteByte('\n')
	}
	return b.String(), api.OK
}

// withoutTail: how many pieces there are up to the last one that is not Blank.
func withoutTail(pieces []string) int {
	size := len(pieces)
	for size > 0 && isBlank(pieces[size-1]) {
		size--
	}
	return size
}

func firstIndent(pieces []string) int {
	i := slices.IndexFunc(pieces, func(p string) bool { return !isBlank(p) })
	if i < 0 {
		return 0
	}
	return Indent(pieces[i])
}

// isRight: is the piece of characters, that all may be?
func isRight(piece string) bool {
	return utf8.ValidString(piece) && !strings.ContainsFunc(piece, func(r rune) bool { return !text.May(r) })
}
