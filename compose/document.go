package compose

import (
	"grille/api"
	"grille/arena"
	"grille/event"
)

// document is what has been read of one: its graph, as far as it goes.
type document struct {
	arena.Graph
	names map[string]int // the nodes for which anchors stand, as of now
	open  []int          // the lists and maps that are not closed yet, the innermost one last
}

func newDocument() document {
	return document{names: map[string]int{}}
}

// take reads one event between a document's Begin and its End.
func (d *document) take(e event.Event) api.Errno {
	switch e.Kind {
	case event.SeqEnd, event.MapEnd:
		d.open = d.open[:len(d.open)-1] // it has been told before that each end has its beginning
		return api.OK
	case event.Alias:
		at, ok := d.names[e.Anchor]
		if !ok {
			return api.ErrAnchor
		}
		return d.hang(at)
	}
	return d.add(e)
}

// add makes an event a new node.
func (d *document) add(e event.Event) api.Errno {
	at := len(d.Graph)
	if at == api.MaxNodes {
		return api.ErrLimit
	}
	t, fault := Tag(e)
	if fault != api.OK {
		return fault
	}
	kind := kindOf(e)
	d.Graph = append(d.Graph, arena.Node{Kind: kind, Tag: t, Text: e.Text})
	if fault := d.hang(at); fault != api.OK {
		return fault
	}
	if e.Anchor != "" {
		d.names[e.Anchor] = at // ahead of its kids, since it may be one of them
	}
	if kind != arena.Scalar {
		d.open = append(d.open, at)
	}
	return api.OK
}

// kindOf: that of the node which an event begins.
func kindOf(e event.Event) int {
	switch e.Kind {
	case event.Seq:
		return arena.Seq
	case event.Map:
		return arena.Map
	}
	return arena.Scalar
}

// hang makes a node the next kid of what stands open; the root has nobody to be a kid of.
func (d *document) hang(at int) api.Errno {
	if len(d.open) == 0 {
		return api.OK
	}
	in := &d.Graph[d.open[len(d.open)-1]]
	isKey := in.Kind == arena.Map && len(in.Kids)%2 == 0
	if isKey && d.Graph[at].Kind != arena.Scalar {
		return api.ErrForm
	}
	in.Kids = append(in.Kids, at)
	return api.OK
}
