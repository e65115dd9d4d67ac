package parse

import (
	"grille/api"
	"grille/event"
	"grille/lex"
)

// properties are an anchor and a tag. Neither may be "", so that this is for none.
type properties struct{ anchor, tag string }

func propertiesOf(e event.Event) properties {
	return properties{anchor: e.Anchor, tag: e.Tag}
}

func (p properties) some() bool {
	return p != properties{}
}

// on: the event, with these properties in place of its own.
func (p properties) on(e event.Event) event.Event {
	e.Anchor, e.Tag = p.anchor, p.tag
	return e
}

// cutProperties: those that the words begin with, and the words behind them.
func cutProperties(words []lex.Word) (properties, []lex.Word) {
	var p properties
	for ; len(words) > 0; words = words[1:] {
		switch w := words[0]; w.Kind {
		case lex.Anchor:
			p.anchor = onlyOne(p.anchor, w.Text)
		case lex.Tag:
			p.tag = onlyOne(p.tag, w.Text)
		default:
			return p, words
		}
	}
	return p, nil
}

func onlyOne(had, t string) string {
	if had != "" {
		panic(fault(api.ErrForm))
	}
	return t
}

// leafOf: the event of a word that is a node by itself, with these properties.
func leafOf(w lex.Word, p properties) event.Event {
	switch w.Kind {
	case lex.Plain, lex.Single, lex.Double:
		return p.on(event.Event{Kind: event.Scalar, Text: w.Text, Plain: w.Kind == lex.Plain})
	case lex.Alias:
		if !p.some() {
			return event.Event{Kind: event.Alias, Anchor: w.Text}
		}
	}
	panic(fault(api.ErrForm))
}

// emptyNode stands where a node may be, and there is none.
func emptyNode() event.Event {
	return event.Event{Kind: event.Scalar, Plain: true}
}

func begins(words []lex.Word, kind int) bool {
	return len(words) > 0 && words[0].Kind == kind
}
