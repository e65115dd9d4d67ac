package parse_test

import (
	"slices"
	"strings"
	"testing"

	"grille/api"
	"grille/event"
	"grille/lex"
	"grille/lines"
	"grille/parse"
)

// P7.2, P7.3: the example, and texts of each kind.
func TestText(t *testing.T) {
	for s, want := range map[string]string{
		"a: [b, c]": "< { .a [ .b .c ] } >",
		// documents
		"": "", "\n": "", "# a": "", "...": "", "...\n...\n": "", "---": "< . >", "---\n---": "< . > < . >", "---\n...\n": "< . >", "---\n...\n---\n...\n": "< . > < . >", "...\n---": "< . >",
		"a\n---\nb": "< .a > < .b >", "a\n...\nb": "< .a > < .b >", "---\na\n...\n": "< .a >", "a\n...\n...\n---\nb\n": "< .a > < .b >", "- a\n---\n- b\n": "< [ .a ] > < [ .b ] >", "a:\n---\n-\n...\nb:\n": "< { .a . } > < [ . ] > < { .b . } >",
		"- - a\n---\n": "< [ [ .a ] ] > < . >", "   a\n---\n  b": "< .a > < .b >", "--- # a\n... # b\n": "< . >",
		// a node alone
		"a": "< .a >", "  'a'": "< 'a >", "\"a\"": "< 'a >", "*a": "< *a >", "[a]": "< [ .a ] >", "{a}": "< { .a . } >", "&x !t a": "< .a&x|!t >", "!t [a]": "< [|!t .a ] >", "|\n a": "< 'a\n >", "|": "< ' >", "!!int |\n  5\n": "< '5\n|int >", "&x |\n": "< '&x >",
		// lists
		"-": "< [ . ] >", "-\n-": "< [ . . ] >", "- a\n-\n- b": "< [ .a . .b ] >", "- - -": "< [ [ [ . ] ] ] >", "- - a\n  - b\n- c": "< [ [ .a .b ] .c ] >", "- - a\n- - b": "< [ [ .a ] [ .b ] ] >", "-\n  - a\n  - b\n-\n - c": "< [ [ .a .b ] [ .c ] ] >", "-\n  a\n-\n      b": "< [ .a .b ] >",
		"- [a]\n- {b: c}\n- *d\n- 'e'\n- |\n f": "< [ [ .a ] { .b .c } *d 'e 'f\n ] >", "-   - a\n    - b": "< [ [ .a .b ] ] >", "  - a\n  - b\n": "< [ .a .b ] >", "- - - a\n  - b\n- c": "< [ [ [ .a ] .b ] .c ] >", "- - - a\n- b": "< [ [ [ .a ] ] .b ] >", "- |\n  a\n- b": "< [ 'a\n .b ] >", "-\n  |\n   a\n": "< [ 'a\n ] >",
		// maps
		"a:": "< { .a . } >", ":": "< { . . } >", ": a": "< { . .a } >", "a: b\nc: d": "< { .a .b .c .d } >", "a:\nb:": "< { .a . .b . } >", "a:\n b:\n  c:": "< { .a { .b { .c . } } } >", "a:\n b: c\nd: e": "< { .a { .b .c } .d .e } >", "a:\n  b": "< { .a .b } >", "'a': b\n\"c\" : d\n*e : f": "< { 'a .b 'c .d *e .f } >",
		"a: *b": "< { .a *b } >", "*a:": "< { *a . } >", "a: [b]\nc: {d}": "< { .a [ .b ] .c { .d . } } >", "a: |\n b\nc: |\n\nd:": "< { .a 'b\n .c ' .d . } >", "a:\n  |\n   b\n": "< { .a 'b\n } >", "a:\n  - b\n  - c\nd: e": "< { .a [ .b .c ] .d .e } >", "a:\n\n    # b\n  c # d\n": "< { .a .c } >",
		": a\n: b": "< { . .a . .b } >", "a: b\na: b": "< { .a .b .a .b } >", "  a: b\n  c:\n      d: e\n  f:": "< { .a .b .c { .d .e } .f . } >",
		// both
		"- a: b\n  c: d\n- e:": "< [ { .a .b .c .d } { .e . } ] >", "- a:\n    b: c\n  d:": "< [ { .a { .b .c } .d . } ] >", "- - a: b\n    c:\n  - d\n": "< [ [ { .a .b .c . } .d ] ] >", "a:\n  - b: c\n    d:\n     - e\n": "< { .a [ { .b .c .d [ .e ] } ] } >", "-\n  a: b\n  c: d": "< [ { .a .b .c .d } ] >", "- :\n  : a": "< [ { . . . .a } ] >",
		"a:\n - - b\n   - c\n -\nd:": "< { .a [ [ .b .c ] . ] .d . } >",
		// properties of keys and values
		"&x a: &y b": "< { .a&x .b&y } >", "!t 'a': !!int b": "< { 'a|!t .b|int } >", "&x : a": "< { .&x .a } >", "&x !t :": "< { .&x|!t . } >", "!t &x a:\n&y b:": "< { .a&x|!t . .b&y . } >", "- &x a": "< [ .a&x ] >", "- &x a: b": "< [ { .a&x .b } ] >", "- !t ": "< [ .|!t ] >", "- - &x\n  - !t []": "< [ [ .&x [|!t ] ] ] >", "a: &x |\n b": "< { .a 'b\n&x } >", "- &x !t |": "< [ '&x|!t ] >",
		// properties that are held
		"&x": "< .&x >", "&x\n...": "< .&x >", "&x\n---": "< .&x > < . >", "---\n!t\n": "< .|!t >", "&x !t\na": "< .a&x|!t >", "&x\n[a]": "< [&x .a ] >", "&x\n{}": "< {&x } >", "&x\n|\n a": "< 'a\n&x >", "&x\n- a": "< [&x .a ] >", "&x\na: b": "< {&x .a .b } >", "&x\n&y a: b": "< {&x .a&y .b } >", "&x\n*a : b": "< {&x *a .b } >", "&x\n: a": "< {&x . .a } >", "&x\n- !t\n- b": "< [&x .|!t .b ] >",
		"a: &x\n  b": "< { .a .b&x } >", "a: &x\n  - b": "< { .a [&x .b ] } >", "a: &x\n  b: c": "< { .a {&x .b .c } } >", "a: &x\nb: c": "< { .a .&x .b .c } >", "a: &x\n": "< { .a .&x } >", "a:\n  &x\n  b": "< { .a .b&x } >", "a:\n  &x\n  b: c": "< { .a {&x .b .c } } >", "a:\n  &x\n": "< { .a .&x } >", "a:\n  &x\n---\n": "< { .a .&x } > < . >", "a: &x\n  - - b": "< { .a [&x [ .b ] ] } >", "a: !t\n   &x : b\n": "< { .a {|!t .&x .b } } >",
		"- &x\n- a": "< [ .&x .a ] >", "- &x\n  - a": "< [ [&x .a ] ] >", "- !t\n  a:": "< [ {|!t .a . } ] >", "- &x\n  |\n   a": "< [ 'a\n&x ] >", "- - &x\n- a": "< [ [ .&x ] .a ] >", "a:\n - &x\n   - b\nc: &x": "< { .a [ [&x .b ] ] .c .&x } >", "a:\n    !t\n  'b'": "< { .a 'b|!t } >", "&x\na:\n": "< {&x .a . } >",
	} {
		got, e := parse.Text(s)
		if e != api.OK || short(got) != want {
			t.Errorf("Text(%q): %s, %d; want %s", s, short(got), e, want)
		}
		if !event.Right(got) {
			t.Errorf("Text(%q): %s is not right", s, short(got))
		}
	}
}

// P7.2, P7.3: what is wrong, and what of several things is told.
func TestTextOfWrong(t *testing.T) {
	for want, l := range map[api.Errno][]string{
		api.ErrIndent: {
			"a\nb", "a\n b", "  a\nb", "a\n- b", "a\nb: c", "[]\n[]", "*a\n*b", "|\n a\nb", "'a'\n  'b'", "---\na\nb",
			"a: b\n c", "a: b\n  c: d", "a: b\n- c", "a: b\nc", "a: b\n[c]", "a: b\n&x", "a: b\n'c'", "a:\nb", "a:\n- b", "a:\n&x", "a:\n|", "a:\n[b]", "a:\n  b: c\n d: e", "a:\n  b:\n  - c\n", "a:\n b\n c", "a:\n b\n  c: d", "  a: b\n c: d", " a:\nb:", "a: |\n  b\nc",
			"- a\n b", "- a\nb", "- a\nb: c", "- a\n  b: c", "- a\n  - b", "-\na", "-\na: b", "-\n&x", "- - a\n - b", " - a\n- b", "- a: b\n c: d", "- a: b\n   c: d", "- a: b\n  - c", "-   a: b\n  c: d", "- a:\n  b", "- a:\n  - b", "- &x a: b\n     c: d", "- []\n  a", "- *a\n  *b", "- a: b\n  c",
			"&x\na\nb", "&x\n[a]\nb", "a: &x\nb", "a: &x\n- b", "- &x\na", "a:\n  &x b\n  c", "a: &x b\n  c",
			// the line is held against the blocks ahead of what it says
			"a\n&x &y b", "a\n[", "a: b\n  &x *c : d", "- a\n *b]", "a: b\n c: d: e", "a\n&x &y c: d",
			"a\n" + strings.Repeat("- ", 41), "a\n" + strings.Repeat("[", 41),
		},
		api.ErrForm: {
			"a: b: c", "a: - b", "- a]", "[a", "a]", "{[a]: b}", "[a]: b", "{a: b}: c", "*a b", "a: 'b' c", "a: *b c", "'a' 'b'", "a: b, c", "[a]]", "a: b, |", "[\na\n]", "- ]: a", ",", "a: ,", "a: b,",
			"&x &y", "&x &y a", "!t !u a", "&x !t &y", "&x *a", "!t *a", "&x *a : b", "!t *a:", "&x &y a: b", "!t &x !u : b", "&x &y |", "!t !t |\n a", "a: &x &y b", "- &x &y", "a: &x *b", "- !t *b", "[&x]", "a: [&x]", "a: {&x : b}", "a &x: b: c", "&x ]",
			// held
			"&x\n&y", "&x\n!t", "&x\n&x a", "&x\n!t a", "&x\n*a", "&x\n&y []", "&x\n!t {}", "&x\n&y |\n a", "!t\n&x |", "&x\n&y\na", "a: &x\n  &y b", "a: &x\n  *b", "a:\n  &x\n  &y\n", "a:\n  &x\n  !t [b]", "- !t\n  *a", "- &x\n  &y |\n   a", "&x\n]", "&x\n[", "&x\na b]", "a: &x\n    !t\n  b",
			// the first line that is wrong is told
			"a]\nb", "a: [\nb", "&x\n&y\nb\nc", "[[a]]]\n" + strings.Repeat("- ", 41),
			strings.Repeat("[", 40),
		},
		api.ErrDeep: {
			strings.Repeat("- ", 41), strings.Repeat("- ", 41) + "]", strings.Repeat("- ", 40) + "a:", strings.Repeat("- ", 40) + "[]", strings.Repeat("- ", 40) + "{a", strings.Repeat("- ", 40) + "&x []", strings.Repeat("- ", 39) + "a: []", strings.Repeat("- ", 39) + "a: {",
			strings.Repeat("[", 41), "a: " + strings.Repeat("[", 40), "a: " + strings.Repeat("[", 40) + strings.Repeat("]", 40), "- " + strings.Repeat("{a: ", 40), "- - [a, " + strings.Repeat("[", 38), strings.Repeat("- ", 20) + strings.Repeat("[", 21),
			// a block begins ahead of its key
			strings.Repeat("- ", 40) + "&x &y a: b", strings.Repeat("- ", 40) + "&x *a : b", strings.Repeat("- ", 41) + "&x &y",
			// a Flow is read ahead of what is held
			"&x\n&y " + strings.Repeat("[", 41), "a: &x\n  &y " + strings.Repeat("[", 40),
			"---\n" + strings.Repeat("- ", 41) + "\n---\na\nb", strings.Repeat("- ", 41) + "\na",
		},
		// errors of lines come first, wherever they stand
		api.ErrTab:   {"\ta", "a\nb\n\t", "a: b: c\n\td", strings.Repeat("- ", 41) + "\n\t"},
		api.ErrQuote: {"a: 'b", "a\nb\n\"c", "[\n'"},
		api.ErrTag:   {"!", "a]\n!!no b", "&x &y\n!"},
	} {
		for _, s := range l {
			if got, e := parse.Text(s); e != want || len(got) != 0 {
				t.Errorf("Text(%q): %s, %d; want none, %d", s, short(got), e, want)
			}
		}
	}
	for s, want := range map[string]api.Errno{"a]\n-- b": api.ErrForm, "a\nb\n@": api.ErrForm, "a\nb: |\n   c\n  d\n": api.ErrIndent, "[\nb: |\n   c\n  d\n": api.ErrIndent, "a\nb\xff": api.ErrForm} {
		if got, e := parse.Text(s); e != want || len(got) != 0 {
			t.Errorf("Text(%q): %s, %d; want none, %d", s, short(got), e, want)
		}
	}
}

// P7.2: forty blocks, or blocks and what stands in one line, may be in one another.
func TestBlockDepth(t *testing.T) {
	for blocks := range 44 {
		dashes := strings.Repeat("- ", blocks)
		var keys strings.Builder
		for i := range blocks {
			keys.WriteString(strings.Repeat(" ", i) + "a:\n")
		}
		keys.WriteString(strings.Repeat(" ", blocks))
		for inLine := range 44 {
			for _, begin := range []string{dashes, keys.String()} {
				s := begin + strings.Repeat("[", inLine) + "{}" + strings.Repeat("]", inLine)
				got, e := parse.Text(s)
				if n := blocks + inLine + 1; n <= 40 && (e != api.OK || event.Depth(got) != n) || n > 40 && (e != api.ErrDeep || len(got) != 0) {
					t.Errorf("Text of %d blocks, and %d lists and a map: %s, %d", blocks, inLine, short(got), e)
				}
			}
		}
		for _, leaf := range []string{"b", "*b", "", "&x", "|", "&x |\n" + strings.Repeat(" ", 90) + "b"} {
			got, e := parse.Text(dashes + leaf)
			if blocks <= 40 && e != api.OK || blocks > 40 && e != api.ErrDeep || e == api.OK && event.Depth(got) != blocks && dashes+leaf != "" {
				t.Errorf("Text of %d blocks, and %q: %s, %d", blocks, leaf, short(got), e)
			}
		}
	}
	// Blocks that are closed again are in none, and each document has forty of its own.
	forty := strings.Repeat("- ", 40) + "a\n"
	for s, want := range map[string]int{strings.Repeat(forty, 3): 241, strings.Repeat("---\n"+forty, 3): 249, forty + "- b\n" + strings.Repeat("- ", 39) + "c": 161} {
		if got, e := parse.Text(s); e != api.OK || len(got) != want || event.Depth(got) != 40 || !event.Right(got) {
			t.Errorf("Text(%q): %d events, %d; want %d", s, len(got), e, want)
		}
	}
}

// state: P7.2's, said again.
type state struct {
	out          []event.Event
	open, toCome bool
	blocks       []aBlock
	anchor, tag  string
	held         bool
}

type aBlock struct {
	column int
	inMap  bool
	waits  bool
}

func (s *state) comes(l ...event.Event) {
	if n := len(s.blocks); n > 0 {
		s.blocks[n-1].waits = false
	} else {
		s.toCome = false
	}
	s.out = append(s.out, l...)
	s.anchor, s.tag, s.held = "", "", false
}

func (s *state) empty() {
	s.comes(event.Event{Kind: event.Scalar, Anchor: s.anchor, Tag: s.tag, Plain: true})
}

func (s *state) close() {
	n := len(s.blocks) - 1
	if s.blocks[n].waits {
		s.empty()
	}
	kind := event.SeqEnd
	if s.blocks[n].inMap {
		kind = event.MapEnd
	}
	s.out = append(s.out, event.Event{Kind: kind})
	s.blocks = s.blocks[:n]
}

func (s *state) end() {
	if !s.open {
		return
	}
	for len(s.blocks) > 0 {
		s.close()
	}
	if s.toCome {
		s.empty()
	}
	s.out = append(s.out, event.Event{Kind: event.End})
	s.open = false
}

func (s *state) begin() {
	s.out = append(s.out, event.Event{Kind: event.Begin})
	s.open, s.toCome = true, true
}

func (s *state) block(column int, inMap, waits bool) api.Errno {
	if n := len(s.blocks); n == 0 || s.blocks[n-1].inMap != inMap || s.blocks[n-1].column != column {
		if n == maxDepth {
			return api.ErrDeep
		}
		kind := event.Seq
		if inMap {
			kind = event.Map
		}
		s.comes(event.Event{Kind: kind, Anchor: s.anchor, Tag: s.tag})
		s.blocks = append(s.blocks, aBlock{column: column, inMap: inMap})
	}
	s.blocks[len(s.blocks)-1].waits = waits
	return api.OK
}

// head: the properties that the words begin with, how many words these are, and whether none is there twice.
func head(l []lex.Word) (anchor, tag string, n int, ok bool) {
	for ; n < len(l) && (l[n].Kind == lex.Anchor || l[n].Kind == lex.Tag); n++ {
		to := &anchor
		if l[n].Kind == lex.Tag {
			to = &tag
		}
		if *to != "" {
			return "", "", 0, false
		}
		*to = l[n].Text
	}
	return anchor, tag, n, true
}

func (s *state) value(l []lex.Word, text string) api.Errno {
	if len(l) == 0 {
		return api.OK
	}
	anchor, tag, n, ok := head(l)
	rest := signsOf(l[n:])
	switch {
	case ok && rest == "":
		if s.held {
			return api.ErrForm
		}
		s.anchor, s.tag, s.held = anchor, tag, true
	case ok && rest == "|":
		if s.held && n > 0 {
			return api.ErrForm
		}
		if s.held {
			anchor, tag = s.anchor, s.tag
		}
		s.comes(event.Event{Kind: event.Scalar, Anchor: anchor, Tag: tag, Text: text})
	default:
		node, e := flowTold(l, len(s.blocks))
		if e != api.OK {
			return e
		}
		if s.held {
			if n > 0 || rest == "*" {
				return api.ErrForm
			}
			node[0].Anchor, node[0].Tag = s.anchor, s.tag
		}
		s.comes(node...)
	}
	return api.OK
}

func (s *state) line(line lines.Line) api.Errno {
	if line.Mark != lines.None {
		s.end()
		if line.Mark == lines.Begin {
			s.begin()
		}
		return api.OK
	}
	if !s.open {
		s.begin()
	}
	for len(s.blocks) > 0 && s.blocks[len(s.blocks)-1].column > line.Indent {
		s.close()
	}
	l := line.Words
	isDash := l[0].Kind == lex.Dash
	if n := len(s.blocks); n == 0 {
		if !s.toCome {
			return api.ErrIndent
		}
	} else if b := s.blocks[n-1]; b.column == line.Indent {
		if b.waits {
			s.empty()
		}
		if b.inMap && (isDash || !lex.Key(l)) || !b.inMap && !isDash {
			return api.ErrIndent
		}
	} else if !b.waits {
		return api.ErrIndent
	}
	for len(l) > 0 && l[0].Kind == lex.Dash {
		if e := s.block(l[0].At, false, true); e != api.OK {
			return e
		}
		l = l[1:]
	}
	if lex.Key(l) {
		if e := s.block(l[0].At, true, false); e != api.OK {
			return e
		}
		anchor, tag, n, ok := head(l)
		if !ok || n > 0 && l[n].Kind == lex.Alias {
			return api.ErrForm
		}
		key := event.Event{Kind: event.Scalar, Anchor: anchor, Tag: tag, Text: l[n].Text, Plain: true}
		switch l[n].Kind {
		case lex.Alias:
			key = event.Event{Kind: event.Alias, Anchor: l[n].Text}
		case lex.Single, lex.Double:
			key.Plain = false
		case lex.Colon:
			key.Text = ""
			n--
		}
		s.comes(key)
		s.blocks[len(s.blocks)-1].waits = true
		l = l[n+2:]
	}
	return s.value(l, line.Text)
}

// eventsTold: P7.2, said again.
func eventsTold(l []lines.Line) ([]event.Event, api.Errno) {
	var s state
	for _, line := range l {
		if e := s.line(line); e != api.OK {
			return nil, e
		}
	}
	s.end()
	return s.out, api.OK
}

// holdText holds Text, and Events of the lines, against what is told again: how many events there are.
func holdText(t *testing.T, s string) int {
	t.Helper()
	l, e := lines.Read(s)
	var want []event.Event
	if e == api.OK {
		want, e = eventsTold(l)
		got, f := parse.Events(l)
		if f != e || !slices.Equal(got, want) {
			t.Fatalf("Events of the lines of %q: %s, %d; want %s, %d", s, short(got), f, short(want), e)
		}
	}
	got, f := parse.Text(s)
	if f != e || !slices.Equal(got, want) {
		t.Fatalf("Text(%q): %s, %d; want %s, %d", s, short(got), f, short(want), e)
	}
	if !event.Right(got) {
		t.Fatalf("Text(%q): %s is not right", s, short(got))
	}
	return len(got)
}

// P7.2, P7.3, P7.4: all short texts of what tells.
func TestTextOfAllShortTexts(t *testing.T) {
	right := 0
	hold := func(s string) {
		if holdText(t, s) > 0 {
			right++
		}
	}
	allOf([]string{"a", "- ", ": ", "\n", "\n ", "\n  ", "&x ", "!t ", "|", "[", "]", "*x ", "\n---\n", "\n...\n", "\t"}, 4, hold)
	allOf([]string{"a", "- ", ": ", "\n", "\n ", "&x "}, 6, hold)
	allOf([]string{"a: ", "- ", "\n", "\n  ", "&x ", "b"}, 6, hold)
	if right < 10000 {
		t.Errorf("%d texts were right", right)
	}
}

// P7.2, P7.3, P7.4: all short texts of whole lines.
func TestTextOfAllShortLines(t *testing.T) {
	right := 0
	hold := func(s string) {
		if holdText(t, s) > 0 {
			right++
		}
	}
	allOf([]string{"a\n", "- a\n", "-\n", "a:\n", "b: c\n", " - a\n", " a:\n", "  b: c\n", "  - - a\n", "&x\n", " &x\n", "  !t |\n   t\n", "- &y\n", "b: !t\n", "---\n", "...\n", " *x\n", "  [a]\n", "- - b: c\n", "    c: d\n"}, 4, hold)
	allOf([]string{"-\n", "a:\n", " -\n", " - b: &x\n", "  c:\n", "   - d\n", "  !t\n", "    *x\n", "...\n"}, 5, hold)
	if right < 10000 {
		t.Errorf("%d texts were right", right)
	}
}

// P7.2, P7.4: every byte at each place of texts of each kind, and lines moved.
func TestTextOfEachByte(t *testing.T) {
	for _, shape := range []string{"---\na: &x\n  - !t b\n  -\n...\n", "- a: [b, {c: *d}]\n  'e': |\n    f\n- - g\n", "&x\n!!int a: b\n: c\n"} {
		if holdText(t, shape) == 0 {
			t.Fatalf("%q", shape)
		}
		for at := range len(shape) + 1 {
			holdText(t, shape[:at])
			holdText(t, shape[at:])
			for b := range 256 {
				c := string([]byte{byte(b)})
				holdText(t, shape[:at]+c+shape[at:])
				if at < len(shape) {
					holdText(t, shape[:at]+c+shape[at+1:])
				}
			}
			if at < len(shape) {
				holdText(t, shape[:at]+shape[at+1:])
			}
		}
	}
}

// node is one of a text that is written, and has to come back.
type node struct {
	kind int
	prop string
	text string
	kids []node
}

// events: those that a node is.
func (n node) events() []event.Event {
	e := event.Event{Kind: n.kind}
	for _, p := range strings.Fields(n.prop) {
		if p[0] == '&' {
			e.Anchor = p[1:]
		} else {
			e.Tag = p
		}
	}
	switch n.kind {
	case event.Scalar:
		e.Plain = !strings.HasSuffix(n.text, "\n") && !strings.HasPrefix(n.text, "'")
		e.Text = strings.Trim(n.text, "'")
		return []event.Event{e}
	case event.Alias:
		return []event.Event{{Kind: event.Alias, Anchor: n.text}}
	}
	l := []event.Event{e}
	for _, kid := range n.kids {
		l = append(l, kid.events()...)
	}
	return append(l, event.Event{Kind: n.kind + 1})
}

// inLine writes a node as words of a line; false, if it has lines, or is nothing.
func (n node) inLine() (string, bool) {
	switch n.kind {
	case event.Scalar:
		return n.prop + n.text, n.text != "" && !strings.HasSuffix(n.text, "\n")
	case event.Alias:
		return "*" + n.text, true
	}
	var kids []string
	for i, kid := range n.kids {
		s, ok := kid.inLine()
		if !ok {
			return "", false
		}
		if n.kind == event.Map && i%2 == 1 {
			kids[len(kids)-1] += " : " + s
		} else {
			kids = append(kids, s)
		}
	}
	brackets := map[int]string{event.Seq: "[]", event.Map: "{}"}[n.kind]
	return n.prop + brackets[:1] + strings.Join(kids, ", ") + brackets[1:], true
}

// hasBar: has the node, or one in it, a text below a bar? That goes as far as lines stand further in than the bar's line
// begins, so that what is behind it may not begin in a dash's line.
func (n node) hasBar() bool {
	return strings.HasSuffix(n.text, "\n") || slices.ContainsFunc(n.kids, node.hasBar)
}

// below writes a node as what stands behind a dash, or a colon, and below it, further in than so many blanks. The
// first of the kids stands in the line of the dash, if that is wanted and may be.
func (n node) below(in int, behindDash bool) string {
	if len(n.kids) == 0 {
		if strings.HasSuffix(n.text, "\n") {
			return " " + n.prop + "|\n" + strings.Repeat(" ", in+3) + n.text
		}
		s, ok := n.inLine()
		if !ok {
			s = n.prop
		}
		return " " + s + "\n"
	}
	first := " " + n.prop + "\n" + strings.Repeat(" ", in+2)
	if behindDash && n.prop == "" && !n.hasBar() {
		first = " "
	}
	out := first
	for i, kid := range n.kids {
		if i > 0 && (n.kind == event.Seq || i%2 == 0) {
			out += strings.Repeat(" ", in+2)
		}
		switch {
		case n.kind == event.Seq:
			out += "-" + kid.below(in+2, behindDash)
		case i%2 == 0:
			s, ok := kid.inLine()
			if !ok {
				s = kid.prop
			}
			out += strings.TrimLeft(s+" :", " ")
		default:
			out += kid.below(in+2, false)
		}
	}
	return out
}

// P7.2: nodes that are written in lines, in each way, come back.
func TestTextTellsWhatIsWritten(t *testing.T) {
	leafs := []node{{kind: event.Scalar, text: "a"}, {kind: event.Scalar, text: "'b'", prop: "&x "}, {kind: event.Scalar}, {kind: event.Scalar, prop: "!t "}, {kind: event.Alias, text: "y"}}
	lined := []node{{kind: event.Scalar, text: "c\n", prop: "!t "}, {kind: event.Seq, prop: "&z "}, {kind: event.Map}}
	grow := func(keys, kids []node) (out []node) {
		for _, a := range kids {
			out = append(out, node{kind: event.Seq, kids: []node{a}}, node{kind: event.Seq, prop: "&s !t ", kids: []node{a, a}})
			for _, b := range keys {
				out = append(out, node{kind: event.Map, kids: []node{b, a}}, node{kind: event.Map, prop: "!t ", kids: []node{b, a, keys[0], b}}, node{kind: event.Seq, kids: []node{a, b, a}})
			}
		}
		return out
	}
	one := grow(leafs, append(slices.Clone(leafs), lined...))
	two := grow(leafs[:2], one)
	three := grow(leafs[1:3], two)
	inLines := 0
	for _, n := range slices.Concat(leafs, lined, one, two, three) {
		want := slices.Concat([]event.Event{{Kind: event.Begin}}, n.events(), []event.Event{{Kind: event.End}})
		texts := []string{"---\n" + n.below(-2, false)[1:], "---\n" + n.below(-2, true)[1:], "---\n   " + n.below(1, false)[1:], "...\n---\n  " + n.below(0, true)[1:] + "..."}
		if s, ok := n.inLine(); ok {
			texts = append(texts, s, "   "+s+" # \n")
			inLines++
		}
		for _, s := range texts {
			if got, e := parse.Text(s); e != api.OK || !slices.Equal(got, want) {
				t.Fatalf("Text(%q): %s, %d; want %s", s, short(got), e, short(want))
			}
		}
	}
	if len(three) < 5000 || inLines < 1000 {
		t.Errorf("%d nodes, %d in lines", len(three), inLines)
	}
}

// P7.2: Events of lines, none, and of marks.
func TestEvents(t *testing.T) {
	a := lines.Line{Indent: 2, Words: []lex.Word{{Kind: lex.Plain, Text: "a", At: 2}}}
	begin, end := lines.Line{Mark: lines.Begin}, lines.Line{Mark: lines.End}
	for _, c := range []struct {
		l    []lines.Line
		want string
	}{
		{nil, ""}, {[]lines.Line{}, ""}, {[]lines.Line{end}, ""}, {[]lines.Line{end, end}, ""}, {[]lines.Line{begin}, "< . >"}, {[]lines.Line{begin, begin}, "< . > < . >"}, {[]lines.Line{begin, end, end}, "< . >"},
		{[]lines.Line{a}, "< .a >"}, {[]lines.Line{begin, a, end}, "< .a >"}, {[]lines.Line{a, begin}, "< .a > < . >"}, {[]lines.Line{a, end, a}, "< .a > < .a >"},
	} {
		if got, e := parse.Events(c.l); e != api.OK || short(got) != c.want {
			t.Errorf("Events(%+v): %s, %d; want %s", c.l, short(got), e, c.want)
		}
	}
	if got, e := parse.Events([]lines.Line{a, a}); e != api.ErrIndent || len(got) != 0 {
		t.Errorf("Events of two nodes: %s, %d", short(got), e)
	}
}

// R1: lines that lines.Read could not tell.
func TestEventsEnds(t *testing.T) {
	odd := []lines.Line{{}, {Mark: -1}, {Mark: 3}, {Mark: lines.Begin, Indent: 4, Words: wordsOf("a")}, {Mark: lines.End, Text: "x"}, {Indent: -1}, {Indent: -2, Words: wordsOf("-")}, {Indent: 1 << 62, Words: wordsOf("a")}, {Words: []lex.Word{{Kind: -1}}}, {Words: []lex.Word{{Kind: 99}}}}
	for _, indent := range []int{-1, 0, 2} {
		for _, s := range []string{"-", "--", "-a:", "a:", ":", "a:-", "&", "&:", "&&a:", "&*:", "*:", "|", "&|", "a:|", "a:!", "[", "[]", "-[", "]", "||"} {
			l := wordsOf(s)
			for i := range l {
				l[i].At = indent + i%2
			}
			odd = append(odd, lines.Line{Indent: indent, Words: l, Text: "\xff"})
			bare := slices.Clone(l)
			for i := range bare {
				bare[i].Text, bare[i].At = "", 0
			}
			odd = append(odd, lines.Line{Indent: indent, Words: bare})
		}
	}
	for _, a := range odd {
		for _, b := range odd {
			for _, c := range append(odd[:20:20], odd...) {
				if got, e := parse.Events([]lines.Line{a, b, c, a}); e != api.OK && len(got) != 0 {
					t.Fatalf("Events(%+v, %+v, %+v): %+v, %d", a, b, c, got, e)
				}
			}
		}
	}
}

// R1: long texts.
func TestLongTexts(t *testing.T) {
	const many = 1 << 16
	for s, want := range map[string]int{
		strings.Repeat("- a\n", many): many + 4, strings.Repeat("a: b\n", many): 2*many + 4, strings.Repeat("---\n", many): 3 * many, strings.Repeat("...\n", many): 0, strings.Repeat("a\n...\n", many): 3 * many, strings.Repeat("-\n", many): many + 4,
		strings.Repeat("- - a: &x\n    b:\n", many): 8*many + 4, "[" + strings.Repeat("a, ", many) + "]": many + 4, "a: |\n" + strings.Repeat("  b\n", many): 6, strings.Repeat(" ", many) + "a": 3, strings.Repeat("a", many): 3, strings.Repeat("a:\n - b\n", many): 4*many + 4,
	} {
		if got, e := parse.Text(s); e != api.OK || len(got) != want || !event.Right(got) {
			t.Errorf("Text of %.20q..: %d events, %d; want %d", s, len(got), e, want)
		}
	}
	var falling strings.Builder
	for i := range 2000 {
		falling.WriteString(strings.Repeat(" ", i) + "a:\n")
	}
	for s, want := range map[string]api.Errno{
		strings.Repeat("- ", many): api.ErrDeep, strings.Repeat("[", many): api.ErrDeep, strings.Repeat("{a: ", many): api.ErrDeep, strings.Repeat("]", many): api.ErrForm, strings.Repeat("&x ", many): api.ErrForm, strings.Repeat("&x\n", many): api.ErrForm, strings.Repeat("a\n", many): api.ErrIndent, falling.String(): api.ErrDeep, strings.Repeat("- a\n", many) + "b": api.ErrIndent,
	} {
		if got, e := parse.Text(s); e != want || len(got) != 0 {
			t.Errorf("Text of %.20q..: %d events, %d; want none, %d", s, len(got), e, want)
		}
	}
}

// R4, R5: lines that are handed in stay as they are, and no two answers share anything.
func TestSharesNothing(t *testing.T) {
	const s = "- &x\n  a: [b, {c: *d}]\n- |\n  e\n---\n&y\n!!int f: g\n"
	l, _ := lines.Read(s)
	kept, _ := lines.Read(s)
	one, e := parse.Events(l)
	if e != api.OK {
		t.Fatalf("Events of the lines of %q: %d", s, e)
	}
	two, _ := parse.Events(l)
	want := slices.Clone(one)
	clear(one[:cap(one)])
	if three, _ := parse.Events(l); !slices.Equal(two, want) || !slices.Equal(three, want) {
		t.Errorf("Events of the lines of %q again: %s, %s", s, short(two), short(three))
	}
	for i := range l {
		if l[i].Mark != kept[i].Mark || l[i].Indent != kept[i].Indent || l[i].Text != kept[i].Text || !slices.Equal(l[i].Words, kept[i].Words) {
			t.Errorf("line %d was changed: %+v", i, l[i])
		}
	}
	clear(l)
	if !slices.Equal(two, want) {
		t.Error("the events hang on the lines")
	}
	words := wordsOf("[a,{s:d}]")
	first, _ := parse.Flow(words)
	kept1 := slices.Clone(first)
	second, _ := parse.Flow(words)
	clear(words)
	clear(second[:cap(second)])
	if !slices.Equal(first, kept1) {
		t.Error("Flow's answers share memory")
	}
}
