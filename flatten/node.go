package flatten

import (
	"grille/arena"
	"grille/event"
	"grille/scalar"
	"grille/tag"
)

// Event: that of a node, without an anchor.
func Event(n arena.Node) event.Event {
	switch n.Kind {
	case arena.Scalar:
		return ofScalar(n)
	case arena.Seq:
		return event.Event{Kind: event.Seq, Tag: unlessImplied(n.Tag, tag.Seq)}
	case arena.Map:
		return event.Event{Kind: event.Map, Tag: unlessImplied(n.Tag, tag.Map)}
	}
	return event.Event{}
}

func ofScalar(n arena.Node) event.Event {
	if scalar.Plain(n.Text) && tag.Resolve(n.Text) == n.Tag {
		return event.Event{Kind: event.Scalar, Text: n.Text, Plain: true}
	}
	return event.Event{Kind: event.Scalar, Text: n.Text, Tag: unlessImplied(n.Tag, tag.Str)}
}

// unlessImplied: no tag where a reader gives that one to a node that has none.
func unlessImplied(t, implied string) string {
	if t == implied {
		return ""
	}
	return t
}
