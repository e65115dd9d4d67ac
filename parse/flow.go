package parse

import (
	"grille/api"
	"grille/event"
	"grille/lex"
)

// flow reads words, from the left on, so that the first one that may not stand where it does is the one that is told.
type flow struct {
	words []lex.Word // those that are still to be read
	depth int        // how many lists and maps are open, with those around all of the words
	out   []event.Event
}

// flowOf: the events of words that are one node, which stands in so many lists and maps.
func flowOf(words []lex.Word, depth int) []event.Event {
	f := &flow{words: words, depth: depth}
	f.node()
	if len(f.words) > 0 {
		panic(fault(api.ErrForm))
	}
	return f.out
}

func (f *flow) node() {
	p := f.takeProperties()
	switch {
	case f.skips(lex.Open):
		f.group(p, event.Seq, event.SeqEnd, func() { f.items(lex.Close, f.node) })
	case f.skips(lex.Left):
		f.group(p, event.Map, event.MapEnd, func() { f.items(lex.Right, f.pair) })
	default:
		f.leaf(p)
	}
}

// group reads a list or a map, of which the opening bracket is read: inside reads all that follows.
func (f *flow) group(p properties, kind, end int, inside func()) {
	if f.depth >= api.MaxDepth {
		panic(fault(api.ErrDeep))
	}
	f.depth++
	f.put(p.on(event.Event{Kind: kind}))
	inside()
	f.put(event.Event{Kind: end})
	f.depth--
}

// items reads what stands between two brackets, each by one, and the closing bracket.
func (f *flow) items(closing int, one func()) {
	for !f.skips(closing) {
		one()
		if !f.skips(lex.Comma) && !begins(f.words, closing) {
			panic(fault(api.ErrForm))
		}
	}
}

// pair reads a key, and what it is the key of: no list and no map may be a key.
func (f *flow) pair() {
	if begins(f.words, lex.Colon) {
		f.put(emptyNode())
	} else {
		f.leaf(f.takeProperties())
	}
	if f.skips(lex.Colon) && !begins(f.words, lex.Comma) && !begins(f.words, lex.Right) {
		f.node()
	} else {
		f.put(emptyNode())
	}
}

func (f *flow) leaf(p properties) {
	if len(f.words) == 0 {
		panic(fault(api.ErrForm))
	}
	f.put(leafOf(f.words[0], p))
	f.words = f.words[1:]
}

func (f *flow) takeProperties() properties {
	p, rest := cutProperties(f.words)
	f.words = rest
	return p
}

// skips reads the next word, if it is of that kind: whether it is.
func (f *flow) skips(kind int) bool {
	if !begins(f.words, kind) {
		return false
	}
	f.words = f.words[1:]
	return true
}

func (f *flow) put(e event.Event) {
	f.out = append(f.out, e)
}
