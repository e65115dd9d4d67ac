package compose_test

import (
	"math/rand"
	"slices"
	"strings"
	"testing"

	"grille/api"
	"grille/arena"
	"grille/compose"
	"grille/event"
	"grille/parse"
)

var (
	begin  = event.Event{Kind: event.Begin}
	end    = event.Event{Kind: event.End}
	seq    = event.Event{Kind: event.Seq}
	seqEnd = event.Event{Kind: event.SeqEnd}
	mapp   = event.Event{Kind: event.Map}
	mapEnd = event.Event{Kind: event.MapEnd}
)

func plain(s string) event.Event {
	return event.Event{Kind: event.Scalar, Text: s, Plain: true}
}

func alias(name string) event.Event {
	return event.Event{Kind: event.Alias, Anchor: name}
}

// named, withTag: an event that is another one but for that.
func named(e event.Event, name string) event.Event {
	e.Anchor = name
	return e
}

func withTag(e event.Event, t string) event.Event {
	e.Tag = t
	return e
}

// document: one of these nodes, between a Begin and an End.
func document(nodes ...event.Event) []event.Event {
	return slices.Concat([]event.Event{begin}, nodes, []event.Event{end})
}

// many: a list of so many nodes alike, itself one more.
func many(e event.Event, n int) []event.Event {
	return slices.Concat([]event.Event{seq}, slices.Repeat([]event.Event{e}, n), []event.Event{seqEnd})
}

// events: those of a text.
func events(t *testing.T, s string) []event.Event {
	t.Helper()
	l, e := parse.Text(s)
	if e != api.OK {
		t.Fatalf("Text(%.40q): %d", s, e)
	}
	return l
}

// prints: graphs, as texts.
func prints(l []arena.Graph) []string {
	var out []string
	for _, g := range l {
		out = append(out, arena.Print(g))
	}
	return out
}

// P9.2: texts, and their graphs.
func TestGraphs(t *testing.T) {
	for _, c := range []struct {
		s    string
		want []string
	}{
		{"", nil},
		{"a", []string{"0 = !!str \"a\"\n"}},
		{"~", []string{"0 = !!null \"~\"\n"}},
		{"!!float 5", []string{"0 = !!float \"5\"\n"}},
		{"[]", []string{"0 [ !!seq\n"}},
		{"!own {}", []string{"0 { !own\n"}},
		{"&a [*a]", []string{"0 [ !!seq 0\n"}},
		{"&a {b: *a}", []string{"0 { !!map 1 0\n1 = !!str \"b\"\n"}},
		{"[a, [b, {c: d}, e], f]", []string{"0 [ !!seq 1 2 8\n1 = !!str \"a\"\n2 [ !!seq 3 4 7\n3 = !!str \"b\"\n4 { !!map 5 6\n5 = !!str \"c\"\n6 = !!str \"d\"\n7 = !!str \"e\"\n8 = !!str \"f\"\n"}},
		{"[a, a, 'a']", []string{"0 [ !!seq 1 2 3\n1 = !!str \"a\"\n2 = !!str \"a\"\n3 = !!str \"a\"\n"}}, // what is alike is not one
		// an anchor stands for another node from that one's own event on
		{"[&x a, *x, &x b, *x, *x]", []string{"0 [ !!seq 1 1 2 2 2\n1 = !!str \"a\"\n2 = !!str \"b\"\n"}},
		{"&x [*x, &x [*x], *x]", []string{"0 [ !!seq 0 1 1\n1 [ !!seq 1\n"}},
		{"&x {a: *x, b: &x {c: *x}, d: *x}", []string{"0 { !!map 1 0 2 3 5 3\n1 = !!str \"a\"\n2 = !!str \"b\"\n3 { !!map 4 3\n4 = !!str \"c\"\n5 = !!str \"d\"\n"}},
		{"[&x a, &y b, *x, *y]", []string{"0 [ !!seq 1 2 1 2\n1 = !!str \"a\"\n2 = !!str \"b\"\n"}},
		{"[[&x a], *x]", []string{"0 [ !!seq 1 2\n1 [ !!seq 2\n2 = !!str \"a\"\n"}}, // also behind the list in which it is
		// keys
		{"{&x a: *x}", []string{"0 { !!map 1 1\n1 = !!str \"a\"\n"}},
		{"{a: &x b, *x : c}", []string{"0 { !!map 1 2 2 3\n1 = !!str \"a\"\n2 = !!str \"b\"\n3 = !!str \"c\"\n"}},
		{"{a: {a: a}}", []string{"0 { !!map 1 2\n1 = !!str \"a\"\n2 { !!map 3 4\n3 = !!str \"a\"\n4 = !!str \"a\"\n"}},
		{"{a: [], b: {}}", []string{"0 { !!map 1 2 3 4\n1 = !!str \"a\"\n2 [ !!seq\n3 = !!str \"b\"\n4 { !!map\n"}},
		{"{5: 1, '5': 2, !!float 5: 3, !own 5: 4}", []string{"0 { !!map 1 2 3 4 5 6 7 8\n1 = !!int \"5\"\n2 = !!int \"1\"\n3 = !!str \"5\"\n4 = !!int \"2\"\n5 = !!float \"5\"\n6 = !!int \"3\"\n7 = !own \"5\"\n8 = !!int \"4\"\n"}},
		// each document has numbers and names of its own
		{"a\n---\n[&x b, *x]\n---\n{c: &x d, e: *x}\n", []string{"0 = !!str \"a\"\n", "0 [ !!seq 1 1\n1 = !!str \"b\"\n", "0 { !!map 1 2 3 2\n1 = !!str \"c\"\n2 = !!str \"d\"\n3 = !!str \"e\"\n"}},
		{"{a: 1}\n---\n{a: 1}\n", []string{"0 { !!map 1 2\n1 = !!str \"a\"\n2 = !!int \"1\"\n", "0 { !!map 1 2\n1 = !!str \"a\"\n2 = !!int \"1\"\n"}},
	} {
		g, e := compose.Graphs(events(t, c.s))
		if e != api.OK || !slices.Equal(prints(g), c.want) {
			t.Errorf("Graphs of %q: %q, %d; want %q", c.s, prints(g), e, c.want)
		}
	}
}

// P9.2: what each error is for, and which of two is the first one.
func TestGraphsOfWrong(t *testing.T) {
	badTag := withTag(plain("x"), "int")
	full := many(plain("x"), 1999)
	over := func(e event.Event) []event.Event { // e is the node number 2001
		return slices.Concat(full[:len(full)-1], []event.Event{e, seqEnd})
	}
	for i, c := range []struct {
		l    []event.Event
		want api.Errno
	}{
		// what is not right
		{[]event.Event{begin}, api.ErrForm},
		{[]event.Event{plain("a")}, api.ErrForm},
		{document(), api.ErrForm},
		{document(plain("a"), plain("b")), api.ErrForm},
		{document(mapp, plain("a"), mapEnd), api.ErrForm},
		{document(seq, seq, seqEnd), api.ErrForm},
		{document(withTag(plain("a"), "a")), api.ErrForm},
		{document(alias("")), api.ErrForm},
		{document(plain("\xff")), api.ErrForm},
		{slices.Concat(document(alias("x")), document()), api.ErrForm}, // ahead of all that events tell
		{slices.Concat(document(badTag), []event.Event{end}), api.ErrForm},
		{document(slices.Concat(slices.Repeat([]event.Event{seq}, 41), slices.Repeat([]event.Event{seqEnd}, 41))...), api.ErrForm},
		// names for which no node stands
		{document(alias("x")), api.ErrAnchor},
		{document(seq, alias("x"), named(plain("a"), "x"), seqEnd), api.ErrAnchor},
		{document(seq, named(plain("a"), "x"), alias("X"), seqEnd), api.ErrAnchor},
		{document(seq, named(plain("a"), "x"), alias("a"), seqEnd), api.ErrAnchor},
		{document(mapp, alias("x"), plain("a"), mapEnd), api.ErrAnchor},
		{slices.Concat(document(named(plain("a"), "x")), document(alias("x"))), api.ErrAnchor},
		{slices.Concat(document(named(seq, "x"), seqEnd), document(seq, alias("x"), seqEnd)), api.ErrAnchor},
		// tags
		{document(badTag), api.ErrTag},
		{document(withTag(seq, "map"), seqEnd), api.ErrTag},
		{document(withTag(mapp, "seq"), mapEnd), api.ErrTag},
		{document(seq, plain("a"), withTag(plain(""), "seq"), seqEnd), api.ErrTag},
		// keys
		{document(mapp, seq, seqEnd, plain("a"), mapEnd), api.ErrForm},
		{document(mapp, plain("a"), plain("b"), mapp, mapEnd, plain("c"), mapEnd), api.ErrForm},
		{document(named(mapp, "x"), alias("x"), plain("a"), mapEnd), api.ErrForm},
		{document(seq, named(seq, "x"), seqEnd, mapp, alias("x"), plain("a"), mapEnd, seqEnd), api.ErrForm},
		{document(mapp, named(plain("a"), "x"), named(seq, "x"), seqEnd, alias("x"), plain("b"), mapEnd), api.ErrForm},
		{document(mapp, named(seq, "x"), alias("x"), seqEnd, plain("a"), mapEnd), api.ErrForm},
		// too many
		{document(many(plain("x"), 2000)...), api.ErrLimit},
		{document(many(plain("x"), 5000)...), api.ErrLimit},
		{slices.Concat(document(plain("a")), document(over(plain("a"))...)), api.ErrLimit},
		// keys that are there twice
		{document(mapp, plain("a"), plain("b"), plain("a"), plain("c"), mapEnd), api.ErrTwice},
		{document(mapp, named(plain("a"), "x"), plain("b"), alias("x"), plain("c"), mapEnd), api.ErrTwice},
		{document(mapp, plain("5"), plain("b"), withTag(plain("5"), "int"), plain("c"), mapEnd), api.ErrTwice},
		{document(seq, mapp, plain("a"), plain("b"), plain("c"), plain("b"), plain("a"), plain("b"), mapEnd, seqEnd), api.ErrTwice},
		{slices.Concat(document(plain("a")), document(mapp, plain(""), plain(""), plain(""), plain(""), mapEnd)), api.ErrTwice},
		// the first event's, and not that of another one
		{document(seq, badTag, alias("x"), seqEnd), api.ErrTag},
		{document(seq, alias("x"), badTag, seqEnd), api.ErrAnchor},
		{document(mapp, seq, badTag, seqEnd, plain("a"), mapEnd), api.ErrForm},
		{document(mapp, seq, alias("x"), seqEnd, plain("a"), mapEnd), api.ErrForm},
		{document(mapp, plain("a"), badTag, seq, seqEnd, plain("a"), mapEnd), api.ErrTag},
		{document(mapp, plain("a"), plain("b"), plain("a"), alias("x"), mapEnd), api.ErrAnchor},
		{document(seq, mapp, plain("a"), plain("b"), plain("a"), plain("b"), mapEnd, alias("x"), seqEnd), api.ErrAnchor},
		{document(seq, mapp, plain("a"), plain("b"), plain("a"), plain("b"), mapEnd, badTag, seqEnd), api.ErrTag},
		{slices.Concat(document(mapp, plain("a"), plain("b"), plain("a"), plain("b"), mapEnd), document(alias("x"))), api.ErrTwice},
		{slices.Concat(document(alias("x")), document(mapp, plain("a"), plain("b"), plain("a"), plain("b"), mapEnd)), api.ErrAnchor},
		{slices.Concat(document(badTag), document(alias("x"))), api.ErrTag},
		{document(slices.Concat(many(plain("x"), 2000)[:2001], []event.Event{alias("x"), seqEnd})...), api.ErrLimit},
		{document(slices.Concat(full[:2000], []event.Event{alias("x"), plain("x"), seqEnd})...), api.ErrAnchor},
		{document(slices.Concat([]event.Event{seq, mapp, plain("a"), plain("b"), plain("a"), plain("b"), mapEnd}, slices.Repeat([]event.Event{plain("x")}, 1995), []event.Event{seqEnd})...), api.ErrLimit},
		// several of one event: too many, then the tag, then the name, then the key
		{document(over(badTag)...), api.ErrLimit},
		{document(mapp, withTag(seq, "map"), seqEnd, plain("a"), mapEnd), api.ErrTag},
		{document(mapp, withTag(mapp, "seq"), mapEnd, plain("a"), mapEnd), api.ErrTag},
		{document(slices.Concat(full[:1999], []event.Event{mapp, seq, seqEnd, plain("a"), mapEnd, seqEnd})...), api.ErrLimit},
	} {
		if g, e := compose.Graphs(c.l); len(g) != 0 || e != c.want {
			t.Errorf("number %d: %d graphs, %d; want %d", i, len(g), e, c.want)
		}
	}
}

// P9.2: as many nodes as there may be, however often they are met, in each document of its own; an alias is none.
func TestGraphsOfMost(t *testing.T) {
	full := many(named(plain("x"), "x"), 1999)
	for i, c := range []struct {
		l     []event.Event
		sizes []int
	}{
		{document(full...), []int{2000}},
		{slices.Concat(document(full...), document(full...), document(plain("a"))), []int{2000, 2000, 1}},
		{document(slices.Concat(full[:2000], slices.Repeat([]event.Event{alias("x")}, 10000), []event.Event{seqEnd})...), []int{2000}},
		{slices.Repeat(document(plain("a")), 5000), slices.Repeat([]int{1}, 5000)},
		{document(slices.Concat(slices.Repeat([]event.Event{seq}, 40), slices.Repeat([]event.Event{seqEnd}, 40))...), []int{40}},
	} {
		g, e := compose.Graphs(c.l)
		if e != api.OK || len(g) != len(c.sizes) {
			t.Errorf("number %d: %d graphs, %d", i, len(g), e)
			continue
		}
		for k, size := range c.sizes {
			if len(g[k]) != size || !arena.Right(g[k]) {
				t.Errorf("number %d: the graph %d has %d nodes; want %d", i, k, len(g[k]), size)
			}
		}
	}
}

// place is what an event is in its document, as P9.2 says it: the node that it is or begins (-1: none), and that of which it is a kid (-1: of none), as a key or not.
type place struct {
	node, in int
	key      bool
}

// placesOf: those of one document's events that are right; an alias for which there is no node has -1.
func placesOf(l []event.Event) []place {
	out := make([]place, len(l))
	for i, e := range l {
		out[i] = place{node: -1, in: -1}
		switch e.Kind {
		case event.Seq, event.Map, event.Scalar:
			out[i].node = event.Nodes(l[:i])
			for _, before := range l[:i] {
				if before.Kind == event.Alias {
					out[i].node--
				}
			}
		case event.Alias:
			for j := range i {
				if l[j].Anchor == e.Anchor && l[j].Kind != event.Alias {
					out[i].node = out[j].node
				}
			}
		default:
			continue
		}
		out[i].in, out[i].key = around(l, i, out)
	}
	return out
}

// around: the node within which an event stands, going back to the first beginning that has no end yet; and whether an even number of nodes of a Map is ahead.
func around(l []event.Event, i int, places []place) (in int, key bool) {
	depth, ahead := 0, 0
	for j := i - 1; j >= 0; j-- {
		switch l[j].Kind {
		case event.SeqEnd, event.MapEnd:
			depth++
		case event.Seq, event.Map:
			if depth == 0 {
				return places[j].node, l[j].Kind == event.Map && ahead%2 == 0
			}
			depth--
		}
		if depth == 0 && l[j].Kind != event.Begin {
			ahead++
		}
	}
	return -1, false
}

// composed is P9.2, said again, of one document of events that are right: the graph, and the first error.
func composed(l []event.Event) (arena.Graph, api.Errno) {
	places := placesOf(l)
	var g arena.Graph
	for i, e := range l {
		p := places[i]
		if e.Kind == event.Seq || e.Kind == event.Map || e.Kind == event.Scalar {
			t, fault := tagged(e)
			if p.node >= 2000 {
				fault = api.ErrLimit
			}
			if fault != api.OK {
				return nil, fault
			}
			kinds := map[int]int{event.Seq: 1, event.Map: 2}
			g = append(g, arena.Node{Kind: kinds[e.Kind], Tag: t, Text: e.Text})
		}
		if e.Kind == event.Alias && p.node < 0 {
			return nil, api.ErrAnchor
		}
		if p.key && g[p.node].Kind != 0 {
			return nil, api.ErrForm
		}
		if p.in >= 0 {
			g[p.in].Kids = append(g[p.in].Kids, p.node)
		}
	}
	if arena.Twice(g) {
		return nil, api.ErrTwice
	}
	return g, api.OK
}

// alike: are two graphs the same, number by number?
func alike(a, b arena.Graph) bool {
	return slices.EqualFunc(a, b, func(m, n arena.Node) bool {
		return m.Kind == n.Kind && m.Tag == n.Tag && m.Text == n.Text && slices.Equal(m.Kids, n.Kids)
	})
}

// holds: is what Graphs tells of these documents, each right, what P9.2 and P9.3 say?
func holds(t *testing.T, documents ...[]event.Event) api.Errno {
	t.Helper()
	var want []arena.Graph
	fault := api.OK
	for _, l := range documents {
		g, e := composed(l)
		if e != api.OK {
			want, fault = nil, e
			break
		}
		want = append(want, g)
	}
	l := slices.Concat(documents...)
	got, e := compose.Graphs(l)
	if e != fault || !slices.EqualFunc(got, want, alike) {
		t.Fatalf("Graphs(%v): %v, %d; want %v, %d", l, got, e, want, fault)
	}
	for _, g := range got {
		if !arena.Right(g) || !alike(g, arena.Normal(g)) {
			t.Fatalf("Graphs(%v): %v is not right, or not normal", l, g)
		}
	}
	return fault
}

// allDocuments calls see with each document of at most so many events between its Begin and its End, of these nodes.
func allDocuments(nodes []event.Event, most int, see func(l []event.Event)) {
	var grow func(l []event.Event, ends []event.Event, counts []int)
	grow = func(l, ends []event.Event, counts []int) { // ends of what is open, and how many nodes are in it
		deep := len(ends)
		if deep == 0 && len(l) > 0 {
			see(document(l...))
			return
		}
		if len(l)+deep > most {
			return
		}
		if deep > 0 && (ends[deep-1] == seqEnd || counts[deep-1]%2 == 0) {
			grow(append(slices.Clip(l), ends[deep-1]), ends[:deep-1], counts[:deep-1])
		}
		more := slices.Clone(counts)
		if deep > 0 {
			more[deep-1]++
		}
		for _, e := range nodes {
			next := append(slices.Clip(l), e)
			switch e.Kind {
			case event.Seq:
				grow(next, append(slices.Clip(ends), seqEnd), append(slices.Clip(more), 0))
			case event.Map:
				grow(next, append(slices.Clip(ends), mapEnd), append(slices.Clip(more), 0))
			default:
				grow(next, ends, more)
			}
		}
	}
	grow(nil, nil, nil)
}

// P9.2, P9.3: all short documents: of lists, maps and texts, with names, and wrong tags.
func TestGraphsOfAllShortDocuments(t *testing.T) {
	counts := map[api.Errno]int{}
	see := func(l []event.Event) {
		if !event.Right(l) {
			t.Fatalf("%v is not right", l)
		}
		counts[holds(t, l)]++
	}
	allDocuments([]event.Event{named(seq, "a"), named(mapp, "b"), plain("1"), named(plain("2"), "a"), named(plain("2"), "b"), alias("a"), alias("b")}, 8, see)
	allDocuments([]event.Event{named(mapp, "a"), named(plain("1"), "a"), plain("2"), alias("a")}, 10, see)
	allDocuments([]event.Event{seq, named(mapp, "a"), withTag(seq, "map"), withTag(plain("1"), "!own"), withTag(plain("1"), "bool"), plain("1"), alias("a")}, 6, see)
	for _, e := range []api.Errno{api.OK, api.ErrTag, api.ErrAnchor, api.ErrForm, api.ErrTwice} {
		if counts[e] < 500 {
			t.Errorf("the answer %d came %d times", e, counts[e])
		}
	}
}

// P9.2: every two short documents, one behind the other.
func TestGraphsOfTwoDocuments(t *testing.T) {
	var l [][]event.Event
	allDocuments([]event.Event{named(seq, "a"), mapp, named(plain("1"), "b"), alias("a"), alias("b"), withTag(plain("1"), "null")}, 4, func(d []event.Event) {
		l = append(l, d)
	})
	l = append(l, document(mapp, plain("a"), plain("b"), plain("a"), plain("b"), mapEnd))
	for _, a := range l {
		for _, b := range l {
			holds(t, a, b)
		}
	}
	for _, a := range l[:20] {
		holds(t, a, a, a)
	}
}

// P9.2, R1: all short rows that are not right, and those of no kind among them.
func TestGraphsOfAllShortRows(t *testing.T) {
	kinds := []event.Event{begin, end, seq, seqEnd, mapp, mapEnd, plain("a"), alias("a"), {Kind: 8}, {Kind: -1}}
	var grow func(l []event.Event)
	grow = func(l []event.Event) {
		if g, e := compose.Graphs(l); !event.Right(l) && (len(g) != 0 || e != api.ErrForm) || len(l) == 0 && (len(g) != 0 || e != api.OK) {
			t.Fatalf("Graphs(%v): %v, %d", l, g, e)
		}
		if len(l) < 5 {
			for _, e := range kinds {
				grow(append(slices.Clip(l), e))
			}
		}
	}
	grow(nil)
	for _, l := range [][]event.Event{nil, {}} {
		if g, e := compose.Graphs(l); len(g) != 0 || e != api.OK {
			t.Errorf("of none: %v, %d", g, e)
		}
	}
}

// grown: a document of chance, of some size.
func grown(r *rand.Rand, size int) []event.Event {
	var out []event.Event
	var node func(depth int, key bool)
	node = func(depth int, key bool) {
		name := []string{"", "", "a", "b", "c"}[r.Intn(5)]
		size--
		switch kind := r.Intn(8); {
		case key || depth > 30 || size < 0 || kind < 3:
			out = append(out, named(plain(strings.Repeat("k", r.Intn(40))+[]string{"", "1", "x", "true"}[r.Intn(4)]), name))
		case kind == 3:
			out = append(out, alias([]string{"a", "b", "c"}[r.Intn(3)]))
		case kind < 6:
			out = append(out, named(seq, name))
			for range r.Intn(12) {
				node(depth+1, false)
			}
			out = append(out, seqEnd)
		default:
			out = append(out, named(mapp, name))
			for range r.Intn(6) {
				node(depth+1, r.Intn(30) > 0)
				node(depth+1, false)
			}
			out = append(out, mapEnd)
		}
	}
	out = append(out, named(seq, "a"), named(plain("x"), "b"), named(plain("y"), "c"))
	for range 8 {
		node(1, false)
	}
	return document(append(out, seqEnd)...)
}

// P9.2, P9.3: greater documents.
func TestGraphsOfGreatDocuments(t *testing.T) {
	r := rand.New(rand.NewSource(9))
	counts := map[api.Errno]int{}
	for range 3000 {
		l := grown(r, 100)
		if !event.Right(l) {
			t.Fatalf("%v is not right", l)
		}
		counts[holds(t, l)]++
	}
	for _, e := range []api.Errno{api.OK, api.ErrForm, api.ErrTwice} {
		if counts[e] < 100 {
			t.Errorf("the answer %d came %d times", e, counts[e])
		}
	}
}

// R4, R5: the answer is new memory, shares nothing with what was handed in, and no two of its lists share any.
func TestGraphsShareNothing(t *testing.T) {
	l := slices.Concat(document(named(seq, "a"), alias("a"), mapp, plain("k"), seq, alias("a"), seqEnd, mapEnd, seqEnd), document(seq, plain("b"), seqEnd))
	before := slices.Clone(l)
	first, _ := compose.Graphs(l)
	if !slices.Equal(l, before) {
		t.Fatalf("what was handed in was changed: %v", l)
	}
	want := prints(first)
	for i := range l {
		l[i] = event.Event{}
	}
	if got := prints(first); !slices.Equal(got, want) {
		t.Fatalf("the answer was changed: %q", got)
	}
	second, _ := compose.Graphs(before)
	for k, g := range first {
		for i := range g {
			kids := g[i].Kids[:cap(g[i].Kids)]
			for j := range kids {
				kids[j] = -1
			}
			for k2, g2 := range first {
				for i2 := range g2 {
					if (k2 > k || k2 == k && i2 > i) && slices.Contains(g2[i2].Kids, -1) {
						t.Fatalf("the node %d of the graph %d shares its kids", i2, k2)
					}
				}
			}
		}
		whole := g[:cap(g)]
		for i := range whole {
			whole[i] = arena.Node{Kind: -1}
		}
		if k == 0 && first[1][0].Kind == -1 {
			t.Fatal("two graphs share their nodes")
		}
	}
	if got := prints(second); !slices.Equal(got, want) {
		t.Fatalf("two answers share: %q; want %q", got, want)
	}
}
