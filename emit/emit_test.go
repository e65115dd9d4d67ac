package emit_test

import (
	"math/rand"
	"slices"
	"strings"
	"testing"

	"grille/api"
	"grille/emit"
	"grille/event"
	"grille/parse"
	"grille/scalar"
	"grille/text"
)

var (
	begin  = event.Event{Kind: event.Begin}
	end    = event.Event{Kind: event.End}
	seq    = event.Event{Kind: event.Seq}
	seqEnd = event.Event{Kind: event.SeqEnd}
	mapp   = event.Event{Kind: event.Map}
	mapEnd = event.Event{Kind: event.MapEnd}
)

func plain(s string) event.Event {
	return event.Event{Kind: event.Scalar, Text: s, Plain: true}
}

func quoted(s string) event.Event {
	return event.Event{Kind: event.Scalar, Text: s}
}

func alias(name string) event.Event {
	return event.Event{Kind: event.Alias, Anchor: name}
}

// named, withTag: an event that is another one but for that.
func named(e event.Event, name string) event.Event {
	e.Anchor = name
	return e
}

func withTag(e event.Event, t string) event.Event {
	e.Tag = t
	return e
}

// document: one of these nodes, between a Begin and an End.
func document(nodes ...event.Event) []event.Event {
	return slices.Concat([]event.Event{begin}, nodes, []event.Event{end})
}

// pile: so many of that kind in one another, of which the innermost one has what is given.
func pile(opening, ending event.Event, deep int, last ...event.Event) []event.Event {
	l := []event.Event{}
	for at := range deep {
		if at > 0 && opening.Kind == event.Map {
			l = append(l, plain("k"))
		}
		l = append(l, opening)
	}
	l = append(l, last...)
	return document(append(l, slices.Repeat([]event.Event{ending}, deep)...)...)
}

// P11.1: what stands ahead of each event, right or not.
func TestHead(t *testing.T) {
	long := strings.Repeat("n", 50)
	for _, c := range []struct{ anchor, tag, want string }{
		{"", "", ""},
		{"x", "", "&x "},
		{"", "int", "!!int "},
		{"", "seq", "!!seq "},
		{"", "map", "!!map "},
		{"", "null", "!!null "},
		{"", "!own", "!own "},
		{"x", "str", "&x !!str "},
		{"a-1_B", "!t-2", "&a-1_B !t-2 "},
		// wrong ones: a name is written as it stands, and a tag as its word tells, also ""
		{"a b", "", "&a b "},
		{" ", "", "&  "},
		{"&x", "", "&&x "},
		{"\xff\n", "", "&\xff\n "},
		{long, "", "&" + long + " "},
		{"", "own", " "},
		{"", "!", " "},
		{"", "!!int", " "},
		{"", "Int", " "},
		{"", "! own", " "},
		{"", "!" + long, " "},
		{"", "\xff", " "},
		{"x", "own", "&x  "},
		{long, "!", "&" + long + "  "},
	} {
		for kind := -3; kind < 12; kind++ {
			want := ""
			if kind == event.Scalar || kind == event.Seq || kind == event.Map {
				want = c.want
			}
			for _, s := range []string{"", "a", "\xff"} {
				for _, p := range []bool{false, true} {
					e := event.Event{Kind: kind, Anchor: c.anchor, Tag: c.tag, Text: s, Plain: p}
					if got := emit.Head(e); got != want {
						t.Errorf("Head(%+v): %q; want %q", e, got, want)
					}
				}
			}
		}
	}
}

// P11.2: events, and their lines.
func TestText(t *testing.T) {
	for i, c := range []struct {
		l    []event.Event
		want []string
	}{
		{nil, nil},
		{[]event.Event{}, nil},
		// short ones
		{document(plain("a")), []string{"---", "a"}},
		{document(quoted("a")), []string{"---", `"a"`}},
		{document(quoted("")), []string{"---", `""`}},
		{document(quoted("a\n\"\x00")), []string{"---", `"a\n\"\0"`}},
		{document(plain("a 'b' \\n")), []string{"---", `a 'b' \n`}},
		{document(alias("x")), []string{"---", "*x"}},
		{document(seq, seqEnd), []string{"---", "[]"}},
		{document(mapp, mapEnd), []string{"---", "{}"}},
		{document(named(withTag(plain("5"), "int"), "x")), []string{"---", "&x !!int 5"}},
		{document(withTag(quoted("5"), "!own")), []string{"---", `!own "5"`}},
		{document(withTag(seq, "seq"), seqEnd), []string{"---", "!!seq []"}},
		{document(withTag(seq, "map"), seqEnd), []string{"---", "!!map []"}}, // event.Right does not say which tag whose is
		{document(named(mapp, "m"), mapEnd), []string{"---", "&m {}"}},
		// lists
		{document(seq, plain("a"), seqEnd), []string{"---", "- a"}},
		{document(seq, plain("a"), alias("x"), quoted("b"), seq, seqEnd, mapp, mapEnd, seqEnd), []string{"---", "- a", "- *x", `- "b"`, "- []", "- {}"}},
		{document(seq, seq, plain("a"), seqEnd, seqEnd), []string{"---", "-", "  - a"}},
		{document(seq, seq, seq, seq, seqEnd, seqEnd, seqEnd, plain("a"), seqEnd), []string{"---", "-", "  -", "    - []", "- a"}},
		{document(seq, mapp, plain("k"), plain("v"), mapEnd, seqEnd), []string{"---", "-", "  k: v"}},
		{document(seq, named(plain("a"), "x"), named(withTag(seq, "!t"), "y"), plain("b"), seqEnd, withTag(seq, "seq"), seqEnd, seqEnd), []string{"---", "- &x a", "- &y !t", "  - b", "- !!seq []"}},
		// maps
		{document(mapp, plain("k"), plain("v"), mapEnd), []string{"---", "k: v"}},
		{document(mapp, quoted(""), quoted(""), mapEnd), []string{"---", `"": ""`}},
		{document(mapp, alias("x"), alias("x"), mapEnd), []string{"---", "*x: *x"}},
		{document(mapp, plain("k"), seq, seqEnd, plain("l"), mapp, mapEnd, mapEnd), []string{"---", "k: []", "l: {}"}},
		{document(mapp, plain("k"), seq, plain("a"), plain("b"), seqEnd, plain("l"), mapp, plain("c"), plain("d"), mapEnd, mapEnd), []string{"---", "k:", "  - a", "  - b", "l:", "  c: d"}},
		{document(mapp, named(withTag(quoted("k"), "!t"), "x"), named(withTag(plain("5"), "int"), "y"), mapEnd), []string{"---", `&x !t "k": &y !!int 5`}},
		{document(mapp, named(plain("k"), "x"), named(mapp, "y"), alias("x"), withTag(mapp, "!m"), plain("a"), plain("b"), mapEnd, mapEnd, mapEnd), []string{"---", "&x k: &y", "  *x: !m", "    a: b"}},
		{document(mapp, plain("k"), plain("v"), plain("k"), plain("v"), mapEnd), []string{"---", "k: v", "k: v"}}, // keys may be there twice
		// a document's own node, and what it has, stand at the left
		{document(named(seq, "x"), plain("a"), seqEnd), []string{"---", "&x", "- a"}},
		{document(named(withTag(mapp, "!t"), "x"), plain("k"), seq, alias("x"), seqEnd, mapEnd), []string{"---", "&x !t", "k:", "  - *x"}},
		{document(withTag(seq, "!t"), withTag(seq, "!t"), withTag(seq, "!t"), plain("a"), seqEnd, plain("b"), seqEnd, plain("c"), seqEnd), []string{"---", "!t", "- !t", "  - !t", "    - a", "  - b", "- c"}},
		// documents
		{slices.Concat(document(plain("a")), document(seq, plain("b"), seqEnd), document(named(mapp, "x"), mapEnd), document(alias("x"))), []string{"---", "a", "---", "- b", "---", "&x {}", "---", "*x"}},
		{pile(seq, seqEnd, 3, plain("a")), []string{"---", "-", "  -", "    - a"}},
		{pile(mapp, mapEnd, 3, plain("a"), plain("b")), []string{"---", "k:", "  k:", "    a: b"}},
	} {
		want := ""
		for _, line := range c.want {
			want += line + "\n"
		}
		if got, e := emit.Text(c.l); got != want || e != api.OK {
			t.Errorf("number %d: %q, %d; want %q", i, got, e, want)
		}
		holds(t, c.l)
	}
}

// P11.2: events that are not right, texts that need quotes, and keys that are no short ones.
func TestTextOfWrong(t *testing.T) {
	for i, l := range [][]event.Event{
		// what is not right
		{begin}, {end}, {plain("a")}, {seq, seqEnd}, {seqEnd}, {begin, end, plain("a")}, {{Kind: 8}}, {{Kind: -1}},
		document(),
		document(plain("a"), plain("b")),
		document(seq),
		document(seq, mapEnd),
		document(seqEnd),
		document(mapp, plain("a"), mapEnd),
		document(mapp, plain("a"), plain("b"), seqEnd),
		document(begin, plain("a"), end),
		document(plain("a"), event.Event{Kind: 8}),
		document(alias("")),
		document(alias("a b")),
		document(named(plain("a"), "x y")),
		document(withTag(plain("a"), "own")),
		document(withTag(seq, "!"), seqEnd),
		document(withTag(alias("x"), "!own")),
		document(quoted("\xff")),
		document(event.Event{Kind: event.Seq, Text: "a"}, seqEnd),
		document(event.Event{Kind: event.Seq, Plain: true}, seqEnd),
		{{Kind: event.Begin, Tag: "!own"}, plain("a"), end},
		{begin, plain("a"), {Kind: event.End, Anchor: "x"}},
		document(plain("a"))[:2],
		slices.Concat(document(plain("a")), []event.Event{end}),
		slices.Concat(document(plain("a")), document()),
		pile(seq, seqEnd, 41), pile(mapp, mapEnd, 41), pile(seq, seqEnd, 41, plain("a")),
		// texts that need quotes
		document(plain("")),
		document(plain("a: b")),
		document(plain("a\n")),
		document(plain(" a")),
		document(plain("---")),
		document(plain("[]")),
		document(plain("\x00")),
		document(withTag(plain(""), "null")),
		document(named(plain("- a"), "x")),
		document(seq, plain("a"), plain("#"), seqEnd),
		document(mapp, plain("k"), plain(""), mapEnd),
		document(mapp, plain(""), plain("v"), mapEnd),
		document(mapp, plain("k"), plain("v"), plain("k:"), plain("v"), mapEnd),
		slices.Concat(document(plain("a")), document(plain(""))),
		slices.Concat(document(plain("")), document(plain("a"))),
		// keys that are a Seq, or a Map, also one that has nothing
		document(mapp, seq, seqEnd, plain("a"), mapEnd),
		document(mapp, mapp, mapEnd, plain("a"), mapEnd),
		document(mapp, named(withTag(seq, "!t"), "x"), plain("a"), seqEnd, plain("a"), mapEnd),
		document(mapp, plain("a"), plain("b"), seq, seqEnd, plain("a"), mapEnd),
		document(mapp, plain("a"), seq, seqEnd, mapp, mapEnd, plain("a"), mapEnd),
		document(mapp, plain("a"), seq, plain("b"), seqEnd, mapp, mapEnd, plain("a"), mapEnd),
		document(mapp, plain("a"), mapp, plain("b"), plain("c"), mapEnd, seq, seqEnd, plain("a"), mapEnd),
		document(seq, plain("a"), mapp, seq, seqEnd, plain("a"), mapEnd, seqEnd),
		document(mapp, plain("a"), mapp, mapp, mapEnd, plain("b"), mapEnd, mapEnd),
		document(mapp, plain("a"), seq, mapp, seq, seqEnd, plain("b"), mapEnd, seqEnd, mapEnd),
		slices.Concat(document(mapp, plain("a"), plain("b"), mapEnd), document(mapp, seq, seqEnd, plain("a"), mapEnd)),
		slices.Concat(document(mapp, seq, seqEnd, plain("a"), mapEnd), document(plain("a"))),
	} {
		if s, e := emit.Text(l); s != "" || e != api.ErrForm {
			t.Errorf("number %d: %q, %d", i, s, e)
		}
	}
}

// tree is a node, with those that stand in it.
type tree struct {
	event.Event
	kids []tree
}

// treeOf: the node that right events begin with, and the events behind it.
func treeOf(l []event.Event) (tree, []event.Event) {
	n := tree{Event: l[0]}
	l = l[1:]
	if n.Kind != event.Seq && n.Kind != event.Map {
		return n, l
	}
	for l[0].Kind != event.SeqEnd && l[0].Kind != event.MapEnd {
		var kid tree
		kid, l = treeOf(l)
		n.kids = append(n.kids, kid)
	}
	return n, l[1:]
}

// mayBeWritten is the first sentence of P11.2, said again, of a node.
func mayBeWritten(n tree) bool {
	if n.Plain && !scalar.Plain(n.Text) {
		return false
	}
	for at, kid := range n.kids {
		if n.Kind == event.Map && at%2 == 0 && (kid.Kind == event.Seq || kid.Kind == event.Map) {
			return false
		}
		if !mayBeWritten(kid) {
			return false
		}
	}
	return true
}

// wordsOf: what stands in a node's own line, or, if it is no short one, in the line above what it has.
func wordsOf(n tree) []string {
	var words []string
	if n.Kind == event.Alias {
		return append(words, "*"+n.Anchor)
	}
	if n.Anchor != "" {
		words = append(words, "&"+n.Anchor)
	}
	if strings.HasPrefix(n.Tag, "!") {
		words = append(words, n.Tag)
	} else if n.Tag != "" {
		words = append(words, "!!"+n.Tag)
	}
	switch {
	case len(n.kids) > 0:
		return words
	case n.Kind == event.Scalar && n.Plain:
		return append(words, n.Text)
	case n.Kind == event.Scalar:
		return append(words, scalar.Quote(n.Text))
	case n.Kind == event.Seq:
		return append(words, "[]")
	}
	return append(words, "{}")
}

// linesOf is P11.2, said again, of a node behind these words: its lines, of which each stands as many blanks deep as it has to within the node.
func linesOf(n tree, lead ...string) []string {
	var lines []string
	own := len(lead) == 0
	if words := slices.Concat(lead, wordsOf(n)); len(words) > 0 {
		lines = append(lines, strings.Join(words, " "))
	}
	for at := 0; at < len(n.kids); at++ {
		kidsLead := "-"
		if n.Kind == event.Map {
			kidsLead = strings.Join(wordsOf(n.kids[at]), " ") + ":"
			at++
		}
		for _, line := range linesOf(n.kids[at], kidsLead) {
			if !own {
				line = "  " + line
			}
			lines = append(lines, line)
		}
	}
	return lines
}

// written is P11.2, said again.
func written(l []event.Event) (string, api.Errno) {
	if !event.Right(l) {
		return "", api.ErrForm
	}
	out := ""
	for len(l) > 0 {
		n, rest := treeOf(l[1:])
		if !mayBeWritten(n) {
			return "", api.ErrForm
		}
		out += "---\n" + strings.Join(linesOf(n), "\n") + "\n"
		l = rest[1:]
	}
	return out, api.OK
}

// holds: is what Text tells of these events what P11.2 says, and does it come back?
func holds(t *testing.T, l []event.Event) api.Errno {
	t.Helper()
	want, fault := written(l)
	got, e := emit.Text(l)
	if got != want || e != fault {
		t.Fatalf("Text(%v): %q, %d; want %q, %d", l, got, e, want, fault)
	}
	if e != api.OK {
		return e
	}
	if back, e := parse.Text(got); e != api.OK || !slices.Equal(back, l) {
		t.Fatalf("Text(%v), and back: %v, %d", l, back, e)
	}
	return e
}

// allDocuments calls see with each document of at most so many events between its Begin and its End, of these nodes.
func allDocuments(nodes []event.Event, most int, see func(l []event.Event)) {
	var grow func(l []event.Event, ends []event.Event, counts []int)
	grow = func(l, ends []event.Event, counts []int) { // ends of what is open, and how many nodes are in it
		deep := len(ends)
		if deep == 0 && len(l) > 0 {
			see(document(l...))
			return
		}
		if len(l)+deep > most {
			return
		}
		if deep > 0 && (ends[deep-1] == seqEnd || counts[deep-1]%2 == 0) {
			grow(append(slices.Clip(l), ends[deep-1]), ends[:deep-1], counts[:deep-1])
		}
		more := slices.Clone(counts)
		if deep > 0 {
			more[deep-1]++
		}
		for _, e := range nodes {
			next := append(slices.Clip(l), e)
			switch e.Kind {
			case event.Seq:
				grow(next, append(slices.Clip(ends), seqEnd), append(slices.Clip(more), 0))
			case event.Map:
				grow(next, append(slices.Clip(ends), mapEnd), append(slices.Clip(more), 0))
			default:
				grow(next, ends, more)
			}
		}
	}
	grow(nil, nil, nil)
}

// P11.2, P11.4: all short documents.
func TestTextOfAllShortDocuments(t *testing.T) {
	counts := map[api.Errno]int{}
	see := func(l []event.Event) { counts[holds(t, l)]++ }
	allDocuments([]event.Event{seq, mapp, plain("a")}, 12, see)
	allDocuments([]event.Event{seq, named(seq, "x"), mapp, withTag(mapp, "!m"), plain("a"), quoted(""), alias("x")}, 7, see)
	allDocuments([]event.Event{seq, named(withTag(seq, "map"), "x"), mapp, named(mapp, "x"), named(withTag(plain("5"), "int"), "x"), withTag(quoted("5"), "str"), plain("")}, 7, see)
	if counts[api.OK] < 10000 || counts[api.ErrForm] < 10000 {
		t.Errorf("the answers came %v times", counts)
	}
}

// P11.2, P11.4: every two short documents, one behind the other.
func TestTextOfTwoDocuments(t *testing.T) {
	var all [][]event.Event
	allDocuments([]event.Event{named(seq, "x"), mapp, plain("a"), quoted("b"), plain("")}, 5, func(l []event.Event) {
		all = append(all, l)
	})
	for _, a := range all {
		for _, b := range all {
			holds(t, slices.Concat(a, b))
		}
		holds(t, slices.Concat(a, a, a))
	}
}

// P11.2, R1: all short rows of events, right and wrong, and of no kind.
func TestTextOfAllShortRows(t *testing.T) {
	kinds := []event.Event{begin, end, seq, seqEnd, mapp, mapEnd, plain("a"), alias("x"), {Kind: 8}, {Kind: -1}}
	var grow func(l []event.Event)
	grow = func(l []event.Event) {
		holds(t, l)
		if len(l) < 5 {
			for _, e := range kinds {
				grow(append(slices.Clip(l), e))
			}
		}
	}
	grow(nil)
}

// oddTexts: texts that a reader could take for something else, and all of a few characters that say something.
func oddTexts() []string {
	l := []string{"---", "...", "--- a", "... a", "...#a", "---#a", "... #a", "a #b", "a#b", "a: b", "a:b", "a:", ":a", "-a", "- a", "-", "?", "~", "null", "5", "0x1F", "true", ".inf", "|", "a |", ">", "!a", "&a", "*a", "@a", "%a", "`a",
		"a ", " a", "a\t", "\ta", "a\tb", "a\rb", "a\nb", "\n", "a, b", "[", "]", "{}", "a]", "\"", "'", "a'b", "a\"b", "\\", "a\\nb", "\u0085", "a\u0085b", "\u00a0", "a\u00a0b", "\u2028", "\u2029a", "\ufeff", "\ufeffa", "\x7f", "\x00", "\ue000", "\U0001F600", strings.Repeat("long ", 5000) + "x"}
	signs := []string{"a", " ", ":", "#", "-", ".", "'", "\"", "\\", ",", "\n", "\t", "é"}
	for _, a := range signs {
		l = append(l, a)
		for _, b := range signs {
			l = append(l, a+b)
			for _, c := range signs {
				l = append(l, a+b+c)
			}
		}
	}
	return l
}

// P11.2, P11.4: odd texts, with quotes and without, wherever they may stand, with properties and without.
func TestTextOfOddTexts(t *testing.T) {
	plains := 0
	for _, s := range oddTexts() {
		for _, e := range []event.Event{plain(s), quoted(s), named(plain(s), "x"), withTag(quoted(s), "!t"), named(withTag(plain(s), "str"), "x")} {
			fault := holds(t, document(e))
			if want := e.Plain && !scalar.Plain(s); want != (fault == api.ErrForm) {
				t.Fatalf("Text(%q): %d", s, fault)
			}
			if e.Plain && fault == api.OK {
				plains++
			}
			holds(t, document(seq, e, e, seqEnd))
			holds(t, document(seq, seq, e, seqEnd, e, seqEnd))
			holds(t, document(mapp, e, e, e, e, mapEnd))
			holds(t, document(mapp, e, seq, e, seqEnd, e, mapp, e, e, mapEnd, mapEnd))
			holds(t, slices.Concat(document(e), document(e)))
		}
	}
	if plains < 500 {
		t.Errorf("just %d of them need no quotes", plains)
	}
}

// P11.2, P11.4: each character, in a text of its own.
func TestTextOfAllCharacters(t *testing.T) {
	var l []event.Event
	for r := rune(0); r <= 0x10ffff; r++ {
		if r > 0x11000 && r < 0x10ff00 || r > 0x400 && r < 0x1f00 || r > 0x2100 && r < 0xd700 || r >= 0xd800 && r < 0xe000 {
			continue
		}
		s := "a" + string(r) + "a"
		l = append(l, quoted(s))
		if text.May(r) && scalar.Plain(s) {
			l = append(l, plain(s))
		}
	}
	holds(t, document(slices.Concat([]event.Event{seq}, l, []event.Event{seqEnd})...))
}

// P11.2, P11.4: as deep as may be, of lists and of maps, and what the innermost one may have.
func TestTextOfDeep(t *testing.T) {
	for deep := 1; deep <= 45; deep++ {
		for i, c := range []struct {
			l    []event.Event
			more int // how much deeper it is
		}{
			{pile(seq, seqEnd, deep), 0},
			{pile(seq, seqEnd, deep, plain("a")), 0},
			{pile(seq, seqEnd, deep, seq, seqEnd, plain("a"), mapp, mapEnd), 1},
			{pile(named(seq, "x"), seqEnd, deep, alias("x")), 0},
			{pile(mapp, mapEnd, deep), 0},
			{pile(mapp, mapEnd, deep, plain("a"), plain("b")), 0},
			{pile(withTag(mapp, "!m"), mapEnd, deep, plain("a"), mapp, mapEnd, plain("b"), seq, seqEnd), 1},
			{pile(mapp, mapEnd, deep, plain("a"), seq, plain("b"), seqEnd), 1},
		} {
			if e := holds(t, c.l); (e == api.OK) != (deep+c.more <= 40) {
				t.Errorf("number %d, %d deep: %d", i, deep, e)
			}
		}
	}
	s, _ := emit.Text(pile(seq, seqEnd, 40, plain("a")))
	if lines := strings.Split(s, "\n"); len(lines) != 42 || lines[1] != "-" || lines[40] != strings.Repeat(" ", 78)+"- a" || lines[41] != "" {
		t.Errorf("40 deep: %q", s)
	}
}

// grown: a document of chance, of some size, of which a node is wrong seldom.
func grown(r *rand.Rand, size int) []event.Event {
	var out []event.Event
	wrong := r.Intn(4) == 0
	props := func(e event.Event) event.Event {
		return withTag(named(e, []string{"", "", "a", "b-1"}[r.Intn(4)]), []string{"", "", "str", "!own", "map"}[r.Intn(5)])
	}
	var node func(depth int, key bool)
	node = func(depth int, key bool) {
		size--
		if wrong && r.Intn(60) == 0 {
			key = false
		}
		switch kind := r.Intn(9); {
		case kind == 0:
			out = append(out, alias([]string{"a", "b-1"}[r.Intn(2)]))
		case key || depth > 38 || size < 0 || kind < 5:
			s := []string{"a", "a b", "5", "", " ", "x:y", "- a"}[r.Intn(7)]
			e := props(quoted(s))
			e.Plain = scalar.Plain(s) && r.Intn(4) > 0 || wrong && r.Intn(60) == 0
			out = append(out, e)
		case kind < 7:
			out = append(out, props(seq))
			for range r.Intn(8) {
				node(depth+1, false)
			}
			out = append(out, seqEnd)
		default:
			out = append(out, props(mapp))
			for range r.Intn(5) {
				node(depth+1, true)
				node(depth+1, false)
			}
			out = append(out, mapEnd)
		}
	}
	node(0, false)
	return document(out...)
}

// P11.2, P11.4: greater documents, made by chance that is always the same one.
func TestTextOfGreatDocuments(t *testing.T) {
	r := rand.New(rand.NewSource(11))
	counts := map[api.Errno]int{}
	for range 3000 {
		var l []event.Event
		for range r.Intn(6) {
			l = slices.Concat(l, grown(r, 300))
		}
		if !event.Right(l) {
			t.Fatalf("%v is not right", l)
		}
		counts[holds(t, l)]++
	}
	if counts[api.OK] < 1000 || counts[api.ErrForm] < 200 {
		t.Errorf("the answers came %v times", counts)
	}
}

// P11.2, R1: many documents, and many nodes in one.
func TestTextOfMany(t *testing.T) {
	s, e := emit.Text(slices.Repeat(document(plain("a")), 50000))
	if e != api.OK || s != strings.Repeat("---\na\n", 50000) {
		t.Errorf("of 50000: %d bytes, %d", len(s), e)
	}
	pair := []event.Event{plain("k"), mapp, plain("l"), plain("v"), mapEnd}
	s, e = emit.Text(document(slices.Concat([]event.Event{mapp}, slices.Repeat(pair, 50000), []event.Event{mapEnd})...))
	if e != api.OK || s != "---\n"+strings.Repeat("k:\n  l: v\n", 50000) {
		t.Errorf("of 50000 pairs: %d bytes, %d", len(s), e)
	}
	if s, e := emit.Text(slices.Repeat([]event.Event{begin, seq}, 50000)); s != "" || e != api.ErrForm {
		t.Errorf("of 50000 beginnings: %d bytes, %d", len(s), e)
	}
}

// R5: what is handed in is not changed.
func TestTextChangesNothing(t *testing.T) {
	l := document(named(mapp, "x"), plain("a"), seq, alias("x"), seq, seqEnd, seqEnd, mapEnd)
	before := slices.Clone(l)
	emit.Text(l)
	emit.Text(l[:5])
	if !slices.Equal(l, before) {
		t.Errorf("it was changed: %v", l)
	}
}
