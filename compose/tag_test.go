package compose_test

import (
	"regexp"
	"strings"
	"testing"

	"grille/api"
	"grille/compose"
	"grille/event"
	"grille/tag"
)

// tags: none, those of the core, such of one's own, and what is no tag.
var tags = []string{
	"", "null", "bool", "int", "float", "str", "seq", "map",
	"!a", "!seq", "!map", "!str", "!Own-1", "!" + strings.Repeat("x", 40),
	"!", "!!", "!!str", "!!seq", "!!map", "seq ", " map", "Seq", "Map", "SEQ", "Str", "list", "a", "é", "!é", "!a b", "!a_b", "!" + strings.Repeat("x", 41), "\xff",
}

var texts = []string{"", "~", "null", "nul", "true", "True", "tRUE", "5", "+5", "0x1F", "0o8", "5.", ".5e1", ".inf", "-.nan", "a", " 5", "seq", "map", "!a", "a\x00\nb", "\u2028", "\xff"}

var own = regexp.MustCompile(`^![A-Za-z0-9-]{1,40}$`)

// tagged is P9.1, said again.
func tagged(e event.Event) (string, api.Errno) {
	core := map[int]string{event.Seq: "seq", event.Map: "map", event.Scalar: "str"}
	want, ok := core[e.Kind]
	if !ok {
		return "", api.ErrForm
	}
	if e.Kind == event.Scalar && e.Plain {
		want = tag.Resolve(e.Text)
	}
	if e.Tag != "" {
		want = e.Tag
	}
	if e.Kind == event.Scalar && !tag.Fits(want, e.Text) || e.Kind != event.Scalar && want != core[e.Kind] && !own.MatchString(want) {
		return "", api.ErrTag
	}
	return want, api.OK
}

// P9.1: nodes with tags, and without.
func TestTag(t *testing.T) {
	for _, c := range []struct {
		e    event.Event
		want string
	}{
		{event.Event{Kind: event.Scalar, Text: "5", Plain: true}, "int"},
		{event.Event{Kind: event.Scalar, Text: "5"}, "str"},
		{event.Event{Kind: event.Scalar, Text: "", Plain: true}, "null"},
		{event.Event{Kind: event.Scalar, Text: ""}, "str"},
		{event.Event{Kind: event.Scalar, Text: "~", Plain: true}, "null"},
		{event.Event{Kind: event.Scalar, Text: "True", Plain: true}, "bool"},
		{event.Event{Kind: event.Scalar, Text: "1.5", Plain: true}, "float"},
		{event.Event{Kind: event.Scalar, Text: "a", Plain: true}, "str"},
		{event.Event{Kind: event.Scalar, Text: "a", Plain: true, Anchor: "x"}, "str"},
		{event.Event{Kind: event.Scalar, Text: "5", Plain: true, Tag: "str"}, "str"},
		{event.Event{Kind: event.Scalar, Text: "5", Plain: true, Tag: "float"}, "float"},
		{event.Event{Kind: event.Scalar, Text: "5", Tag: "int"}, "int"},
		{event.Event{Kind: event.Scalar, Text: "5", Tag: "float"}, "float"},
		{event.Event{Kind: event.Scalar, Text: "", Tag: "null"}, "null"},
		{event.Event{Kind: event.Scalar, Text: "5", Plain: true, Tag: "!own"}, "!own"},
		{event.Event{Kind: event.Scalar, Text: "a b", Tag: "!own"}, "!own"},
		{event.Event{Kind: event.Seq}, "seq"},
		{event.Event{Kind: event.Seq, Tag: "seq"}, "seq"},
		{event.Event{Kind: event.Seq, Tag: "!own", Anchor: "x"}, "!own"},
		{event.Event{Kind: event.Seq, Tag: "!map"}, "!map"},
		{event.Event{Kind: event.Map}, "map"},
		{event.Event{Kind: event.Map, Tag: "map"}, "map"},
		{event.Event{Kind: event.Map, Tag: "!own", Anchor: "x"}, "!own"},
		{event.Event{Kind: event.Map, Tag: "!seq"}, "!seq"},
	} {
		if got, e := compose.Tag(c.e); got != c.want || e != api.OK {
			t.Errorf("Tag(%v): %q, %d; want %q", c.e, got, e, c.want)
		}
	}
}

// P9.1: tags that may not be there, and events that are no nodes of their own.
func TestTagOfWrong(t *testing.T) {
	for _, c := range []struct {
		e    event.Event
		want api.Errno
	}{
		{event.Event{Kind: event.Scalar, Text: "x", Plain: true, Tag: "int"}, api.ErrTag},
		{event.Event{Kind: event.Scalar, Text: "5.", Plain: true, Tag: "int"}, api.ErrTag},
		{event.Event{Kind: event.Scalar, Text: "5", Tag: "null"}, api.ErrTag},
		{event.Event{Kind: event.Scalar, Text: "", Tag: "bool"}, api.ErrTag},
		{event.Event{Kind: event.Scalar, Text: "", Tag: "seq"}, api.ErrTag},
		{event.Event{Kind: event.Scalar, Text: "", Tag: "map"}, api.ErrTag},
		{event.Event{Kind: event.Scalar, Text: "a", Tag: "!!str"}, api.ErrTag},
		{event.Event{Kind: event.Scalar, Text: "a", Tag: "!"}, api.ErrTag},
		{event.Event{Kind: event.Seq, Tag: "map"}, api.ErrTag},
		{event.Event{Kind: event.Seq, Tag: "str"}, api.ErrTag},
		{event.Event{Kind: event.Seq, Tag: "null"}, api.ErrTag},
		{event.Event{Kind: event.Seq, Tag: "!!seq"}, api.ErrTag},
		{event.Event{Kind: event.Seq, Tag: "!"}, api.ErrTag},
		{event.Event{Kind: event.Map, Tag: "seq"}, api.ErrTag},
		{event.Event{Kind: event.Map, Tag: "str"}, api.ErrTag},
		{event.Event{Kind: event.Map, Tag: "!!map"}, api.ErrTag},
		{event.Event{Kind: event.Map, Tag: "!a b"}, api.ErrTag},
		{event.Event{Kind: event.Begin}, api.ErrForm},
		{event.Event{Kind: event.End}, api.ErrForm},
		{event.Event{Kind: event.SeqEnd}, api.ErrForm},
		{event.Event{Kind: event.MapEnd, Tag: "map"}, api.ErrForm},
		{event.Event{Kind: event.Alias, Anchor: "a"}, api.ErrForm},
		{event.Event{Kind: event.Alias, Anchor: "a", Tag: "!own"}, api.ErrForm},
		{event.Event{Kind: -1, Tag: "str"}, api.ErrForm},
		{event.Event{Kind: 8, Tag: "nothing"}, api.ErrForm},
	} {
		if got, e := compose.Tag(c.e); got != "" || e != c.want {
			t.Errorf("Tag(%v): %q, %d; want %d", c.e, got, e, c.want)
		}
	}
}

// P9.1: each kind, and such as are none, with each tag and each text.
func TestTagOfAll(t *testing.T) {
	for kind := -2; kind <= 10; kind++ {
		for _, s := range tags {
			for _, text := range texts {
				for _, e := range []event.Event{
					{Kind: kind, Tag: s, Text: text},
					{Kind: kind, Tag: s, Text: text, Plain: true},
					{Kind: kind, Tag: s, Text: text, Anchor: "a b"}, // the anchor has no say
				} {
					want, fault := tagged(e)
					if got, e1 := compose.Tag(e); got != want || e1 != fault {
						t.Fatalf("Tag(%v): %q, %d; want %q, %d", e, got, e1, want, fault)
					}
				}
			}
		}
	}
}
