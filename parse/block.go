package parse

import (
	"grille/api"
	"grille/event"
	"grille/lex"
	"grille/lines"
)

// block is a list or a map of lines, or a document, which stands left of all of them, and waits for its own node.
type block struct {
	kind, end int // of the events at its beginning, and at its end
	column    int
	waits     bool
}

// reader goes through lines.
type reader struct {
	blocks []block // those that are open, the document ahead of the others; none, if no document is open
	held   properties
	out    []event.Event
}

func documentsOf(l []lines.Line) []event.Event {
	r := &reader{}
	for _, line := range l {
		r.line(line)
	}
	r.endDocument()
	return r.out
}

func (r *reader) line(line lines.Line) {
	switch line.Mark {
	case lines.Begin:
		r.endDocument()
		r.beginDocument()
	case lines.End:
		r.endDocument()
	default:
		if len(r.blocks) == 0 {
			r.beginDocument()
		}
		r.place(line)
		r.words(line)
	}
}

func (r *reader) beginDocument() {
	r.out = append(r.out, event.Event{Kind: event.Begin})
	r.blocks = append(r.blocks, block{kind: event.Begin, end: event.End, column: -1, waits: true})
}

func (r *reader) endDocument() {
	for len(r.blocks) > 0 {
		r.closeLast()
	}
}

func (r *reader) last() *block {
	return &r.blocks[len(r.blocks)-1]
}

// depth: how many lists and maps are open.
func (r *reader) depth() int {
	return len(r.blocks) - 1
}

func (r *reader) closeLast() {
	if r.last().waits {
		r.comes(emptyNode())
	}
	r.out = append(r.out, event.Event{Kind: r.last().end})
	r.blocks = r.blocks[:len(r.blocks)-1]
}

// place closes the blocks that the line does not stand in, and asks whether it may stand in the last one that is left.
func (r *reader) place(line lines.Line) {
	for r.depth() > 0 && r.last().column > line.Indent {
		r.closeLast()
	}
	if r.last().column != line.Indent {
		if !r.last().waits {
			panic(fault(api.ErrIndent))
		}
		return
	}
	if !goesOn(r.last().kind, line.Words) {
		panic(fault(api.ErrIndent))
	}
	if r.last().waits {
		r.comes(emptyNode())
	}
}

// goesOn: do words that stand in the column of such a block go on with it?
func goesOn(kind int, words []lex.Word) bool {
	switch kind {
	case event.Seq:
		return begins(words, lex.Dash)
	case event.Map:
		return lex.Key(words)
	}
	return false
}

func (r *reader) words(line lines.Line) {
	words := line.Words
	for ; begins(words, lex.Dash); words = words[1:] {
		r.enter(event.Seq, event.SeqEnd, words[0].At)
		r.last().waits = true
	}
	if lex.Key(words) {
		words = r.key(words)
	}
	if len(words) > 0 {
		r.value(words, line.Text)
	}
}

// enter goes on with the last block, if it is such a one; else a block begins.
func (r *reader) enter(kind, end, column int) {
	if r.last().kind == kind && r.last().column == column {
		return
	}
	if r.depth() >= api.MaxDepth {
		panic(fault(api.ErrDeep))
	}
	r.comes(event.Event{Kind: kind})
	r.blocks = append(r.blocks, block{kind: kind, end: end, column: column})
}

// key reads a key and its colon: the words behind them.
func (r *reader) key(words []lex.Word) []lex.Word {
	r.enter(event.Map, event.MapEnd, words[0].At)
	p, rest := cutProperties(words)
	if begins(rest, lex.Colon) {
		r.comes(p.on(emptyNode()))
	} else {
		r.comes(leafOf(rest[0], p))
		rest = rest[1:]
	}
	r.last().waits = true
	return rest[1:]
}

// value reads words that are a node, or the properties of one that is still to come.
func (r *reader) value(words []lex.Word, text string) {
	p, rest := cutProperties(words)
	switch {
	case len(rest) == 0:
		r.hold(p)
	case len(rest) == 1 && rest[0].Kind == lex.Bar:
		r.comes(p.on(event.Event{Kind: event.Scalar, Text: text}))
	default:
		node := flowOf(words, r.depth())
		r.comes(node[0], node[1:]...)
	}
}

func (r *reader) hold(p properties) {
	if r.held.some() {
		panic(fault(api.ErrForm))
	}
	r.held = p
}

// comes tells a node's events. It is what the last block has waited for, and takes what is held.
func (r *reader) comes(first event.Event, behind ...event.Event) {
	if r.held.some() {
		if first.Kind == event.Alias || propertiesOf(first).some() {
			panic(fault(api.ErrForm))
		}
		first = r.held.on(first)
	}
	r.held = properties{}
	r.last().waits = false
	r.out = append(append(r.out, first), behind...)
}
