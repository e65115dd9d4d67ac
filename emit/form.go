package emit

import (
	"slices"

	"grille/event"
	"grille/scalar"
)

// opens: does an event begin a Seq, or a Map?
func opens(e event.Event) bool {
	return e.Kind == event.Seq || e.Kind == event.Map
}

// closes: does an event end a Seq, a Map, or a document?
func closes(e event.Event) bool {
	return e.Kind == event.SeqEnd || e.Kind == event.MapEnd || e.Kind == event.End
}

// canBeWritten: have these events a form in which a reader meets them again?
func canBeWritten(l []event.Event) bool {
	return event.Right(l) && !slices.ContainsFunc(l, needsQuotes) && !hasLongKey(l)
}

// needsQuotes: has a Scalar a text that it may not have without quotes, and is said to have none?
func needsQuotes(e event.Event) bool {
	return e.Kind == event.Scalar && e.Plain && !scalar.Plain(e.Text)
}

// place is something that nodes stand in: a document, a Seq or a Map.
type place struct {
	kind  int
	nodes int // how many stand in it so far
}

// nextIsKey: is the next node a key?
func (p place) nextIsKey() bool {
	return p.kind == event.Map && p.nodes%2 == 0
}

// hasLongKey: is a key a Seq, or a Map? Events that are right end just what they began.
func hasLongKey(l []event.Event) bool {
	var around []place // the innermost one is the last
	for _, e := range l {
		if closes(e) {
			around = around[:len(around)-1]
			continue
		}
		if e.Kind != event.Begin {
			in := &around[len(around)-1]
			if opens(e) && in.nextIsKey() {
				return true
			}
			in.nodes++
		}
		if e.Kind == event.Begin || opens(e) {
			around = append(around, place{kind: e.Kind})
		}
	}
	return false
}
