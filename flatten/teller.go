package flatten

import (
	"strconv"

	"grille/arena"
	"grille/event"
)

// teller goes through a graph in its Normal form: all its nodes are met, in the order of their numbers. So those that were met are just those below a number.
type teller struct {
	arena.Graph
	met int
}

// newTeller: one of a graph without nodes, if g is not right.
func newTeller(g arena.Graph) *teller {
	return &teller{Graph: arena.Normal(g)}
}

// isFirst: is a node met for the first time? From now on it was met.
func (t *teller) isFirst(at int) bool {
	if at < t.met {
		return false
	}
	t.met++
	return true
}

// anchors: of each node its anchor, or "", if it is met but once.
func (t *teller) anchors() []string {
	counts := arena.Ins(t.Graph)
	counts[0]++ // the root is met by the document, too
	names := make([]string, len(counts))
	last := 0
	for at, count := range counts {
		if count > 1 {
			last++
			names[at] = "a" + strconv.Itoa(last)
		}
	}
	return names
}

// appendDocument: the events of a graph that is right.
func appendDocument(out []event.Event, g arena.Graph) []event.Event {
	t := newTeller(g)
	anchors := t.anchors()
	var deeper func(at int)
	deeper = func(at int) {
		if !t.isFirst(at) {
			out = append(out, event.Event{Kind: event.Alias, Anchor: anchors[at]})
			return
		}
		n := t.Graph[at]
		e := Event(n)
		e.Anchor = anchors[at]
		out = append(out, e)
		for _, kid := range n.Kids {
			deeper(kid)
		}
		switch n.Kind {
		case arena.Seq:
			out = append(out, event.Event{Kind: event.SeqEnd})
		case arena.Map:
			out = append(out, event.Event{Kind: event.MapEnd})
		}
	}
	out = append(out, event.Event{Kind: event.Begin})
	deeper(0)
	return append(out, event.Event{Kind: event.End})
}
