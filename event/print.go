package event

import (
	"strings"

	"grille/api"
	"grille/scalar"
	"grille/tag"
)

// signs: what the line of an event begins with, by its kind.
var signs = [...]string{"+doc", "-doc", "+seq", "-seq", "+map", "-map", "=val", "=ali"}

// Print: events as lines.
func Print(l []Event) string {
	if !Right(l) {
		return ""
	}
	var out []byte
	for _, e := range l {
		out = append(appendEvent(out, e), '\n')
	}
	return string(out)
}

func appendEvent(out []byte, e Event) []byte {
	out = append(out, signs[e.Kind]...)
	if e.Kind == Alias {
		return append(append(out, " *"...), e.Anchor...)
	}
	if e.Anchor != "" {
		out = append(append(out, " &"...), e.Anchor...)
	}
	if e.Tag != "" {
		out = append(append(out, ' '), tag.Word(e.Tag)...)
	}
	if e.Kind != Scalar {
		return out
	}
	out = append(out, ' ')
	if e.Plain {
		out = append(out, ':')
	}
	return append(out, scalar.Quote(e.Text)...)
}

// Parse: the events that are printed as these lines.
func Parse(s string) ([]Event, api.Errno) {
	var list []Event
	for rest := s; rest != ""; {
		var line string
		line, rest, _ = strings.Cut(rest, "\n")
		e, ok := eventOf(line)
		if !ok {
			return nil, api.ErrForm
		}
		list = append(list, e)
	}
	// Lines are read without asking whether all of them is right: what was wrong does not come back.
	if Print(list) != s {
		return nil, api.ErrForm
	}
	return list, api.OK
}

func eventOf(line string) (Event, bool) {
	for kind, sign := range signs {
		if rest, found := strings.CutPrefix(line, sign); found {
			return filled(kind, rest), true
		}
	}
	return Event{}, false
}

// filled: an event of that kind, with the fields that the rest of its line tells.
func filled(kind int, rest string) Event {
	e := Event{Kind: kind}
	if kind == Alias {
		e.Anchor = strings.TrimPrefix(rest, " *")
		return e
	}
	word, rest := cutWord(rest, " &")
	e.Anchor = strings.TrimPrefix(word, "&")
	word, rest = cutWord(rest, " !")
	e.Tag, _ = tag.Read(word)
	if kind == Scalar {
		rest = strings.TrimPrefix(rest, " ")
		rest, e.Plain = strings.CutPrefix(rest, ":")
		e.Text, _ = scalar.Unquote(rest)
	}
	return e
}

// cutWord: the word that s has behind its first blank, and what is behind that; none, if s begins otherwise.
func cutWord(s, beginning string) (word, rest string) {
	if !strings.HasPrefix(s, beginning) {
		return "", s
	}
	size := len(beginning)
	if more := strings.IndexByte(s[size:], ' '); more >= 0 {
		return s[1 : size+more], s[size+more:]
	}
	return s[1:], ""
}
