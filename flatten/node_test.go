package flatten_test

import (
	"strings"
	"testing"

	"grille/api"
	"grille/arena"
	"grille/compose"
	"grille/event"
	"grille/flatten"
	"grille/scalar"
	"grille/tag"
)

// P10.1: nodes, and their events.
func TestEvent(t *testing.T) {
	for _, c := range []struct {
		n    arena.Node
		want event.Event
	}{
		// what a reader takes for just that needs nothing
		{str("a"), event.Event{Kind: event.Scalar, Text: "a", Plain: true}},
		{str("a b"), event.Event{Kind: event.Scalar, Text: "a b", Plain: true}},
		{withTag(str("~"), tag.Null), event.Event{Kind: event.Scalar, Text: "~", Plain: true}},
		{withTag(str("true"), tag.Bool), event.Event{Kind: event.Scalar, Text: "true", Plain: true}},
		{withTag(str("0x1F"), tag.Int), event.Event{Kind: event.Scalar, Text: "0x1F", Plain: true}},
		{withTag(str(".5"), tag.Float), event.Event{Kind: event.Scalar, Text: ".5", Plain: true}},
		// a text that would be taken for another thing, or may not stand without quotes
		{str("~"), event.Event{Kind: event.Scalar, Text: "~"}},
		{str("true"), event.Event{Kind: event.Scalar, Text: "true"}},
		{str("5"), event.Event{Kind: event.Scalar, Text: "5"}},
		{str("5."), event.Event{Kind: event.Scalar, Text: "5."}},
		{str(""), event.Event{Kind: event.Scalar}},
		{str("a: b"), event.Event{Kind: event.Scalar, Text: "a: b"}},
		{str("a\nb"), event.Event{Kind: event.Scalar, Text: "a\nb"}},
		{str("- a"), event.Event{Kind: event.Scalar, Text: "- a"}},
		{str("---"), event.Event{Kind: event.Scalar, Text: "---"}},
		// a tag that no reader would give
		{withTag(str(""), tag.Null), event.Event{Kind: event.Scalar, Tag: tag.Null}},
		{withTag(str("5"), tag.Float), event.Event{Kind: event.Scalar, Text: "5", Tag: tag.Float}},
		{withTag(str("-5"), tag.Int), event.Event{Kind: event.Scalar, Text: "-5", Tag: tag.Int}},
		{withTag(str("-.5"), tag.Float), event.Event{Kind: event.Scalar, Text: "-.5", Tag: tag.Float}},
		{withTag(str("a"), "!own"), event.Event{Kind: event.Scalar, Text: "a", Tag: "!own"}},
		{withTag(str("5"), "!own"), event.Event{Kind: event.Scalar, Text: "5", Tag: "!own"}},
		{withTag(str(""), "!own"), event.Event{Kind: event.Scalar, Tag: "!own"}},
		// lists and maps
		{seq(), event.Event{Kind: event.Seq}},
		{seq(0, 1), event.Event{Kind: event.Seq}},
		{withTag(seq(1), "!own"), event.Event{Kind: event.Seq, Tag: "!own"}},
		{mapp(), event.Event{Kind: event.Map}},
		{mapp(1, 0), event.Event{Kind: event.Map}},
		{withTag(mapp(1, 0), "!own"), event.Event{Kind: event.Map, Tag: "!own"}},
	} {
		if got := flatten.Event(c.n); got != c.want {
			t.Errorf("Event(%v): %v; want %v", c.n, got, c.want)
		}
	}
}

// P10.1, R3: what is told of nodes that no graph may have: it hangs on Kind, Tag and Text alone, and is nothing, if the Kind is none.
func TestEventOfWrong(t *testing.T) {
	for _, c := range []struct {
		n    arena.Node
		want event.Event
	}{
		{arena.Node{}, event.Event{Kind: event.Scalar}},
		{arena.Node{Text: "a"}, event.Event{Kind: event.Scalar, Text: "a"}},
		{arena.Node{Text: "a", Tag: "int"}, event.Event{Kind: event.Scalar, Text: "a", Tag: "int"}},
		{arena.Node{Text: "\xff", Tag: "str"}, event.Event{Kind: event.Scalar, Text: "\xff"}},
		{arena.Node{Text: "a", Tag: "str", Kids: []int{0, 7}}, event.Event{Kind: event.Scalar, Text: "a", Plain: true}},
		{arena.Node{Text: "a", Tag: "seq"}, event.Event{Kind: event.Scalar, Text: "a", Tag: "seq"}},
		{arena.Node{Kind: arena.Seq}, event.Event{Kind: event.Seq}},
		{arena.Node{Kind: arena.Seq, Tag: "map", Text: "a", Kids: []int{-1}}, event.Event{Kind: event.Seq, Tag: "map"}},
		{arena.Node{Kind: arena.Seq, Tag: "str"}, event.Event{Kind: event.Seq, Tag: "str"}},
		{arena.Node{Kind: arena.Map, Text: "a"}, event.Event{Kind: event.Map}},
		{arena.Node{Kind: arena.Map, Tag: "seq", Text: "5", Kids: []int{9}}, event.Event{Kind: event.Map, Tag: "seq"}},
		{arena.Node{Kind: arena.Map, Tag: "str"}, event.Event{Kind: event.Map, Tag: "str"}},
		{arena.Node{Kind: 3, Tag: "map", Text: "a"}, event.Event{}},
		{arena.Node{Kind: -1, Tag: "!own", Text: "a"}, event.Event{}},
		{arena.Node{Kind: event.Map, Tag: "map"}, event.Event{}},
		{arena.Node{Kind: event.Scalar, Tag: "str", Text: "a"}, event.Event{}},
		{arena.Node{Kind: 1 << 40, Tag: "str", Text: "a"}, event.Event{}},
	} {
		if got := flatten.Event(c.n); got != c.want {
			t.Errorf("Event(%v): %v; want %v", c.n, got, c.want)
		}
	}
}

// told is P10.1, said again.
func told(n arena.Node) event.Event {
	kinds := map[int]int{0: event.Scalar, 1: event.Seq, 2: event.Map}
	own := map[int]string{0: "str", 1: "seq", 2: "map"}
	kind, ok := kinds[n.Kind]
	if !ok {
		return event.Event{}
	}
	e := event.Event{Kind: kind, Tag: n.Tag}
	if n.Kind == 0 {
		e.Text = n.Text
		e.Plain = scalar.Plain(n.Text) && tag.Resolve(n.Text) == n.Tag
	}
	if e.Plain || n.Tag == own[n.Kind] {
		e.Tag = ""
	}
	return e
}

// P10.1, P10.4: all tags, with texts of all shapes; of what is right the tag comes back.
func TestEventOfAll(t *testing.T) {
	texts := []string{"", "~", "null", "true", "False", "5", "+5", "-5", "0o7", "0x1F", "5.", ".5", "1e5", ".inf", "-.inf", ".nan", "a", "a b", " a", "a ", "a:", "a: b", "a #b", "a#b", "- a", "-a", "'a'", "\"a\"", "a,b", "a]", "{", "*a", "&a", "!a", "---", "...", "a\n", "a\tb", "a\rb", "\x00", "\u2028", "\ufeff", "\x7f", "é", "\xff", "a\x80", strings.Repeat("a", 5000), strings.Repeat("5", 5000), "a" + strings.Repeat(" ", 5000)}
	tags := []string{"", "null", "bool", "int", "float", "str", "seq", "map", "!a", "!str", "!seq", "!map", "!", "!!str", "a", "Str", "!a b"}
	backs := 0
	for _, s := range texts {
		for _, w := range tags {
			for kind := -2; kind <= 9; kind++ {
				n := arena.Node{Kind: kind, Tag: w, Text: s, Kids: []int{0}}
				if got := flatten.Event(n); got != told(n) {
					t.Fatalf("Event(%.80v): %.80v; want %.80v", n, got, told(n))
				}
				if n.Kids = nil; !arena.Right(arena.Graph{n}) {
					continue
				}
				backs++
				if back, e := compose.Tag(flatten.Event(n)); e != api.OK || back != w {
					t.Fatalf("the tag of Event(%.80v): %q, %d", n, back, e)
				}
			}
		}
	}
	if backs < 100 {
		t.Errorf("just %d came back", backs)
	}
}
