package event_test

import (
	"regexp"
	"slices"
	"strings"
	"testing"
	"unicode/utf8"

	"grille/event"
	"grille/tag"
)

const (
	begin, end     = event.Begin, event.End
	seq, seqEnd    = event.Seq, event.SeqEnd
	mapp, mapEnd   = event.Map, event.MapEnd
	scalarr, alias = event.Scalar, event.Alias
)

// row: events of these kinds; an Alias has a name, since it has to have one.
func row(kinds ...int) []event.Event {
	var l []event.Event
	for _, k := range kinds {
		e := event.Event{Kind: k}
		if k == alias {
			e.Anchor = "a"
		}
		l = append(l, e)
	}
	return l
}

// document: one of these nodes, between a Begin and an End.
func document(nodes ...event.Event) []event.Event {
	return slices.Concat(row(begin), nodes, row(end))
}

// allRows calls see with each row of at most so many of these kinds.
func allRows(kinds []int, most int, see func(l []int)) {
	var grow func(l []int)
	grow = func(l []int) {
		see(l)
		if len(l) < most {
			for _, k := range kinds {
				grow(append(slices.Clip(l), k))
			}
		}
	}
	grow(nil)
}

// P6.1: the numbers that the chapter gives the kinds.
func TestKindNumbers(t *testing.T) {
	if l := []int{begin, end, seq, seqEnd, mapp, mapEnd, scalarr, alias}; !slices.Equal(l, []int{0, 1, 2, 3, 4, 5, 6, 7}) {
		t.Errorf("%v", l)
	}
}

// P6.1: rows that are documents.
func TestRight(t *testing.T) {
	for _, kinds := range [][]int{
		nil, {},
		{begin, scalarr, end}, {begin, alias, end}, {begin, seq, seqEnd, end}, {begin, mapp, mapEnd, end},
		{begin, scalarr, end, begin, alias, end, begin, seq, seqEnd, end},
		{begin, seq, scalarr, seqEnd, end}, {begin, seq, scalarr, alias, scalarr, seqEnd, end}, {begin, seq, seq, seqEnd, seq, seqEnd, seqEnd, end},
		{begin, mapp, scalarr, scalarr, mapEnd, end}, {begin, mapp, scalarr, alias, alias, scalarr, mapEnd, end},
		{begin, mapp, seq, scalarr, seqEnd, mapp, scalarr, scalarr, mapEnd, mapEnd, end},
		{begin, seq, mapp, mapEnd, mapp, scalarr, seq, seqEnd, mapEnd, seqEnd, end},
	} {
		if !event.Right(row(kinds...)) {
			t.Errorf("Right(%v): false", kinds)
		}
	}
}

// P6.1: rows that are none.
func TestRightOfWrong(t *testing.T) {
	for _, kinds := range [][]int{
		// no document, or none at its end, or in another
		{begin}, {end}, {scalarr}, {alias}, {seq}, {seqEnd}, {mapp}, {mapEnd}, {seq, seqEnd}, {mapp, mapEnd}, {end, begin}, {begin, scalarr}, {scalarr, end},
		{begin, scalarr, end, end}, {begin, begin, scalarr, end, end}, {begin, scalarr, end, scalarr}, {begin, scalarr, end, begin}, {scalarr, begin, scalarr, end},
		{begin, seq, begin, scalarr, end, seqEnd, end}, {begin, begin, scalarr, end}, {begin, scalarr, begin, scalarr, end},
		// not one node
		{begin, end}, {begin, scalarr, scalarr, end}, {begin, seq, seqEnd, scalarr, end}, {begin, scalarr, alias, scalarr, end}, {begin, mapp, mapEnd, mapp, mapEnd, end},
		// what is not closed, or not by its own, or not in its place
		{begin, seq, end}, {begin, mapp, end}, {begin, seq, mapEnd, end}, {begin, mapp, seqEnd, end}, {begin, seqEnd, end}, {begin, mapEnd, end}, {begin, seq, end, seqEnd},
		{begin, seq, seqEnd, seqEnd, end}, {begin, seq, seq, seqEnd, end}, {begin, seq, mapp, seqEnd, mapEnd, end}, {begin, mapp, scalarr, seq, mapEnd, seqEnd, end}, {begin, seqEnd, seq, end},
		// an odd number of nodes
		{begin, mapp, scalarr, mapEnd, end}, {begin, mapp, scalarr, scalarr, scalarr, mapEnd, end}, {begin, mapp, seq, scalarr, seqEnd, mapEnd, end}, {begin, mapp, mapp, mapEnd, mapEnd, end},
		// kinds that are none
		{8}, {-1}, {begin, 8, end}, {begin, -1, end}, {begin, seq, 9, seqEnd, end}, {begin, scalarr, end, 8}, {begin, scalarr, 1 << 32, end},
	} {
		if event.Right(row(kinds...)) {
			t.Errorf("Right(%v): true", kinds)
		}
	}
}

var (
	lists     = regexp.MustCompile(`\[n*\]|\{(nn)*\}`)
	documents = regexp.MustCompile(`^(<n>)*$`)
	name      = regexp.MustCompile(`^[A-Za-z0-9_-]{1,40}$`)
)

// nested: P6.1's documents and nodes, said again: each node is taken for one sign, from the innermost ones on.
func nested(kinds []int) bool {
	var signs []byte
	for _, k := range kinds {
		if k < begin || k > alias {
			return false
		}
		signs = append(signs, "<>[]{}nn"[k])
	}
	s := string(signs)
	for lists.MatchString(s) {
		s = lists.ReplaceAllString(s, "n")
	}
	return documents.MatchString(s)
}

// P6.1: all short rows of kinds, also of those that are none, alone and as what a document has.
func TestRightOfAllShortRows(t *testing.T) {
	right := 0
	hold := func(kinds []int) {
		want := nested(kinds)
		if got := event.Right(row(kinds...)); got != want {
			t.Fatalf("Right(%v): %t; want %t", kinds, got, want)
		}
		if want {
			right++
		}
	}
	allRows([]int{-1, 0, 1, 2, 3, 4, 5, 6, 7, 8}, 4, hold)
	allRows([]int{0, 1, 2, 3, 4, 5, 6, 7}, 5, hold)
	allRows([]int{0, 1, 2, 3, 4, 5, 6}, 6, func(kinds []int) {
		hold(slices.Concat([]int{begin}, kinds, []int{end}))
	})
	allRows([]int{2, 3, 4, 5, 6}, 6, func(kinds []int) {
		hold(slices.Concat([]int{begin, mapp, scalarr}, kinds, []int{mapEnd, end, begin, alias, end}))
	})
	if right < 100 {
		t.Errorf("%d rows were right", right)
	}
}

// lined: may an event have such fields, as P6.1 says it?
func lined(e event.Event) bool {
	named := name.MatchString(e.Anchor)
	if e.Kind != scalarr && (e.Text != "" || e.Plain) || !utf8.ValidString(e.Text) {
		return false
	}
	switch e.Kind {
	case seq, mapp, scalarr:
		return (named || e.Anchor == "") && (e.Tag == "" || tag.Right(e.Tag))
	case alias:
		return named && e.Tag == ""
	}
	return e.Anchor == "" && e.Tag == ""
}

// P6.1: each field, and all of them together, of each kind of event.
func TestRightFields(t *testing.T) {
	rows := [][]event.Event{row(begin, seq, scalarr, alias, seqEnd, end), row(begin, mapp, alias, scalarr, mapEnd, end)}
	x40, y40 := strings.Repeat("x", 40), "!"+strings.Repeat("y", 40)
	right := 0
	for _, r := range rows {
		for at := range r {
			for _, anchor := range []string{"", "a", "A-_z09", x40, x40 + "x", "a b", " ", "&a", "*a", "é", "a\n", "\xff", "a:"} {
				for _, tagg := range []string{"", "null", "bool", "int", "float", "str", "seq", "map", "!x", y40, y40 + "y", "!", "no", "!!str", "! x", "!x_", "!é", "Str", " str", "\xff"} {
					for _, text := range []string{"", "a", " ", "\n\x00\u2028\ufeff", "é", "\xff", "a\xc3", "\xed\xa0\x80", x40 + x40} {
						for _, plain := range []bool{false, true} {
							l := slices.Clone(r)
							l[at] = event.Event{Kind: r[at].Kind, Anchor: anchor, Tag: tagg, Text: text, Plain: plain}
							want := lined(l[at])
							if got := event.Right(l); got != want {
								t.Fatalf("Right with %+v: %t; want %t", l[at], got, want)
							}
							if (event.Print(l) != "") != want {
								t.Fatalf("Print with %+v: %q", l[at], event.Print(l))
							}
							if want {
								right++
							}
						}
					}
				}
			}
		}
	}
	if right < 1000 {
		t.Errorf("%d rows were right", right)
	}
}

// P6.1: a Plain scalar may have any text, and any tag that there is; anchors may be there twice, and an alias ahead of its anchor.
func TestRightAsksNoMore(t *testing.T) {
	for _, l := range [][]event.Event{
		document(event.Event{Kind: scalarr, Text: "- a: [", Plain: true}),
		document(event.Event{Kind: scalarr, Text: "", Plain: true}),
		document(event.Event{Kind: scalarr, Text: "a", Tag: "int", Plain: true}),
		document(event.Event{Kind: scalarr, Text: "a", Tag: "seq"}),
		document(event.Event{Kind: seq, Tag: "map"}, event.Event{Kind: seqEnd}),
		document(event.Event{Kind: mapp, Tag: "str"}, event.Event{Kind: scalarr, Anchor: "a"}, event.Event{Kind: scalarr, Anchor: "a"}, event.Event{Kind: mapEnd}),
		document(event.Event{Kind: mapp}, event.Event{Kind: scalarr, Text: "a"}, event.Event{Kind: alias, Anchor: "b"}, event.Event{Kind: scalarr, Text: "a"}, event.Event{Kind: scalarr, Anchor: "b"}, event.Event{Kind: mapEnd}),
	} {
		if !event.Right(l) {
			t.Errorf("Right(%+v): false", l)
		}
	}
}

// deep: a document of so many lists or maps in one another.
func deep(many int, maps bool) []event.Event {
	if maps {
		return slices.Concat(row(begin), slices.Repeat(row(mapp, scalarr), many), row(scalarr), slices.Repeat(row(mapEnd), many), row(end))
	}
	return slices.Concat(row(begin), slices.Repeat(row(seq), many), slices.Repeat(row(seqEnd), many), row(end))
}

// P6.1, P6.2: 40 in one another may be, and 41 not, wherever they stand; any many may stand behind one another.
func TestRightDepth(t *testing.T) {
	for _, maps := range []bool{false, true} {
		for many := range 60 {
			l := deep(many+1, maps)
			if got := event.Depth(l); got != many+1 {
				t.Errorf("Depth of %d: %d", many+1, got)
			}
			for _, r := range [][]event.Event{l, slices.Concat(row(begin, scalarr, end), l), slices.Concat(l, row(begin, scalarr, end)), slices.Concat(l, l)} {
				if got := event.Right(r); got != (many+1 <= 40) {
					t.Errorf("Right of %d in one another: %t", many+1, got)
				}
			}
		}
	}
	wide := slices.Concat(row(begin, seq), slices.Repeat(row(mapp, mapEnd), 1000), row(seqEnd, end))
	if !event.Right(wide) || event.Depth(wide) != 2 {
		t.Errorf("wide: %t, %d", event.Right(wide), event.Depth(wide))
	}
}

// counted: P6.2's Depth, said again, of each beginning by itself.
func counted(kinds []int) int {
	most := 0
	for size := range len(kinds) + 1 {
		n := 0
		for _, k := range kinds[:size] {
			switch k {
			case seq, mapp:
				n++
			case seqEnd, mapEnd:
				n--
			}
		}
		most = max(most, n)
	}
	return most
}

// P6.2: of rows that are right, and of all others.
func TestDepthAndNodes(t *testing.T) {
	for _, c := range []struct {
		kinds        []int
		depth, nodes int
	}{
		{nil, 0, 0},
		{[]int{begin, end}, 0, 0},
		{[]int{begin, scalarr, end}, 0, 1},
		{[]int{begin, alias, end, begin, alias, end}, 0, 2},
		{[]int{begin, seq, seqEnd, end}, 1, 1},
		{[]int{begin, mapp, scalarr, seq, alias, seqEnd, mapEnd, end}, 2, 4},
		{[]int{seqEnd, seqEnd, seq}, 0, 1},
		{[]int{seqEnd, mapp, mapp}, 1, 2},
		{[]int{seq, mapEnd, mapp, seqEnd}, 1, 2},
		{[]int{seq, mapp, seq}, 3, 3},
		{[]int{8, -1, 9}, 0, 0},
	} {
		l := row(c.kinds...)
		if d, n := event.Depth(l), event.Nodes(l); d != c.depth || n != c.nodes {
			t.Errorf("%v: %d, %d; want %d, %d", c.kinds, d, n, c.depth, c.nodes)
		}
	}
	allRows([]int{-1, 0, 1, 2, 3, 4, 5, 6, 7, 8}, 5, func(kinds []int) {
		l := row(kinds...)
		nodes := 0
		for _, k := range kinds {
			if k == 2 || k == 4 || k == 6 || k == 7 {
				nodes++
			}
		}
		if d, n := event.Depth(l), event.Nodes(l); d != counted(kinds) || n != nodes {
			t.Fatalf("%v: %d, %d; want %d, %d", kinds, d, n, counted(kinds), nodes)
		}
	})
}

// P6.2: the other fields tell nothing of depth and number.
func TestDepthAndNodesOfWrongFields(t *testing.T) {
	l := []event.Event{{Kind: seq, Text: "\xff", Plain: true}, {Kind: alias}, {Kind: mapp, Anchor: "a b"}, {Kind: scalarr, Tag: "no"}}
	if event.Depth(l) != 2 || event.Nodes(l) != 4 {
		t.Errorf("%d, %d", event.Depth(l), event.Nodes(l))
	}
}

// R1: long rows, that stand deep, or never end.
func TestLongRows(t *testing.T) {
	const many = 1 << 20
	if l := slices.Repeat(row(seq), many); event.Right(l) || event.Depth(l) != many || event.Nodes(l) != many || event.Print(l) != "" {
		t.Error("lists in one another")
	}
	if l := slices.Repeat(row(seqEnd), many); event.Right(l) || event.Depth(l) != 0 || event.Nodes(l) != 0 {
		t.Error("ends of lists")
	}
	l := slices.Repeat(row(begin, mapp, scalarr, seq, seqEnd, mapEnd, end), many/8)
	if !event.Right(l) || event.Depth(l) != 2 || event.Nodes(l) != 3*many/8 {
		t.Error("documents")
	}
}
