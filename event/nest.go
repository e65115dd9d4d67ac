package event

// group is what stands open: how many nodes it has so far, and what tells whether such an event may close it.
type group struct {
	nodes  int
	closes func(kind int) bool
}

// openedBy: the group that an event opens; none, if it opens nothing.
func openedBy(kind int) *group {
	g := &group{}
	switch kind {
	case Begin:
		g.closes = func(kind int) bool { return kind == End && g.nodes == 1 }
	case Seq:
		g.closes = func(kind int) bool { return kind == SeqEnd }
	case Map:
		g.closes = func(kind int) bool { return kind == MapEnd && g.nodes%2 == 0 }
	default:
		return nil
	}
	return g
}

// isNested: do the events open and close groups as documents do, whatever their fields are?
func isNested(l []Event) bool {
	var open []*group
	for _, e := range l {
		last := len(open) - 1
		switch {
		case (e.Kind == Begin) != (last < 0): // a document stands in nothing, all else stands in one
			return false
		case isNode(e.Kind):
			open[last].nodes++
		case e.Kind == Begin:
		case open[last].closes(e.Kind):
			open = open[:last]
		default:
			return false
		}
		if g := openedBy(e.Kind); g != nil {
			open = append(open, g)
		}
	}
	return len(open) == 0
}
