package emit

import (
	"strings"

	"grille/event"
	"grille/scalar"
)

// writer writes events that canBeWritten: so there is a next one wherever it takes one.
type writer struct {
	strings.Builder
	rest []event.Event // what is still to be written
}

func (w *writer) take() event.Event {
	e := w.rest[0]
	w.rest = w.rest[1:]
	return e
}

// atEnd: does what is open end here?
func (w *writer) atEnd() bool {
	return closes(w.rest[0])
}

// line writes words that far in. One that is "" is none, and without words there is no line.
func (w *writer) line(deep int, words ...string) {
	ahead := strings.Repeat(" ", deep)
	written := false
	for _, word := range words {
		if word == "" {
			continue
		}
		w.WriteString(ahead)
		w.WriteString(word)
		ahead = " "
		written = true
	}
	if written {
		w.WriteByte('\n')
	}
}

func (w *writer) document() {
	w.take() // its Begin
	w.line(0, "---")
	w.node("", 0)
	w.take() // its End
}

// node writes the next one, with all that it has, behind a lead that stands that deep.
func (w *writer) node(lead string, deep int) {
	e := w.take()
	switch {
	case !opens(e):
		w.line(deep, lead, short(e))
	case w.atEnd():
		w.line(deep, lead, short(e))
		w.take()
	default:
		w.line(deep, lead, strings.TrimSuffix(Head(e), " "))
		w.kids(e, depthOfKids(lead, deep))
		w.take()
	}
}

// kids writes all nodes of a Seq, or all pairs of a Map.
func (w *writer) kids(of event.Event, deep int) {
	for !w.atEnd() {
		lead := "-"
		if of.Kind == event.Map {
			lead = short(w.take()) + ":"
		}
		w.node(lead, deep)
	}
}

// depthOfKids: nothing stands above what a document's own node has, so it stands at the left.
func depthOfKids(lead string, deep int) int {
	if lead == "" {
		return deep
	}
	return deep + 2
}

// short: a node that is written in one line. Whoever asks for a Seq, or a Map, knows that it has nothing.
func short(e event.Event) string {
	switch {
	case e.Kind == event.Alias:
		return "*" + e.Anchor
	case e.Kind == event.Seq:
		return Head(e) + "[]"
	case e.Kind == event.Map:
		return Head(e) + "{}"
	case e.Plain:
		return Head(e) + e.Text
	}
	return Head(e) + scalar.Quote(e.Text)
}
