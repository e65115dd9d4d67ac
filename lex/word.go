package lex

import (
	"strings"

	"grille/api"
	"grille/scalar"
	"grille/tag"
)

// pastBlanks: the place of the first byte from at on that is no blank, or of the end.
func pastBlanks(s string, at int) int {
	for at < len(s) && s[at] == ' ' {
		at++
	}
	return at
}

// isOver: does no word begin at that place, nor behind it?
func isOver(s string, at int) bool {
	return at == len(s) || isRemark(s, at)
}

func isRemark(s string, at int) bool {
	return s[at] == '#' && (at == 0 || s[at-1] == ' ')
}

// wordAt: the word that begins at that place, and how many bytes it takes.
func wordAt(s string, at int, mayDash bool) (Word, int, api.Errno) {
	rest := s[at:]
	if rest[0] == '\t' {
		return Word{}, 0, api.ErrTab
	}
	kind := kindOf(rest, mayDash)
	size, e := sizeOf(rest, kind)
	if e != api.OK {
		return Word{}, 0, e
	}
	t, e := textOf(rest[:size], kind)
	if e != api.OK {
		return Word{}, 0, e
	}
	return Word{Kind: kind, Text: t, At: at}, size, api.OK
}

// kindOf: the kind of the word that rest begins with. What is of no other kind is Plain, also where that is wrong.
func kindOf(rest string, mayDash bool) int {
	switch rest[0] {
	case '"':
		return Double
	case '\'':
		return Single
	case '[':
		return Open
	case ']':
		return Close
	case '{':
		return Left
	case '}':
		return Right
	case ',':
		return Comma
	case '&':
		return Anchor
	case '*':
		return Alias
	case '!':
		return Tag
	}
	switch {
	case mayDash && isDash(rest):
		return Dash
	case isColon(rest, 0):
		return Colon
	case isBar(rest):
		return Bar
	}
	return Plain
}

func isDash(rest string) bool {
	return rest == "-" || strings.HasPrefix(rest, "- ")
}

func isColon(s string, at int) bool {
	return s[at] == ':' && (at+1 == len(s) || s[at+1] == ' ' || isFlow(s[at+1]))
}

func isFlow(b byte) bool {
	switch b {
	case ',', '[', ']', '{', '}':
		return true
	}
	return false
}

func isBar(rest string) bool {
	return rest[0] == '|' && isOver(rest, pastBlanks(rest, 1))
}

// sizeOf: how many bytes a word of that kind takes of rest, which it begins.
func sizeOf(rest string, kind int) (int, api.Errno) {
	switch kind {
	case Single, Double:
		return scalar.End(rest)
	case Anchor, Alias, Tag:
		return upTo(rest, func(at int) bool {
			return rest[at] == ' ' || isFlow(rest[at]) || isColon(rest, at)
		}), api.OK
	case Plain:
		size := upTo(rest, func(at int) bool {
			return isFlow(rest[at]) || isColon(rest, at) || isRemark(rest, at)
		})
		return len(strings.TrimRight(rest[:size], " ")), api.OK
	}
	return 1, api.OK
}

// upTo: the first place at which a word has ended. Its first byte is its own, whatever that is.
func upTo(rest string, ended func(at int) bool) int {
	for at := 1; at < len(rest); at++ {
		if ended(at) {
			return at
		}
	}
	return len(rest)
}

// textOf: the text of a word that is written so.
func textOf(written string, kind int) (string, api.Errno) {
	switch kind {
	case Double:
		return scalar.Unquote(written)
	case Single:
		return scalar.Unsingle(written)
	case Anchor, Alias:
		return checked(written[1:], Name)
	case Tag:
		return tag.Read(written)
	case Plain:
		return checked(written, scalar.Plain)
	}
	return "", api.OK
}

func checked(t string, may func(string) bool) (string, api.Errno) {
	if !may(t) {
		return "", api.ErrForm
	}
	return t, api.OK
}
