package event_test

import (
	"regexp"
	"slices"
	"strings"
	"testing"
	"unicode/utf8"

	"grille/api"
	"grille/event"
	"grille/scalar"
	"grille/tag"
)

// allOf calls see with each text of at most so many parts, of these.
func allOf(parts []string, most int, see func(s string)) {
	grow := []string{""}
	for size := 0; ; size++ {
		var next []string
		for _, s := range grow {
			see(s)
			if size < most {
				for _, p := range parts {
					next = append(next, s+p)
				}
			}
		}
		if size == most {
			return
		}
		grow = next
	}
}

// lines: each with a byte 10.
func lines(l ...string) string {
	return strings.Join(append(l, ""), "\n")
}

// P6.3, P6.4: the example, and each kind of line.
func TestPrintAndParse(t *testing.T) {
	long := strings.Repeat("x", 40)
	for s, l := range map[string][]event.Event{
		"":                                                  nil,
		lines("+doc", `=val :"a"`, "-doc"):                  document(event.Event{Kind: scalarr, Text: "a", Plain: true}),
		lines("+doc", `=val "a"`, "-doc"):                   document(event.Event{Kind: scalarr, Text: "a"}),
		lines("+doc", `=val ""`, "-doc"):                    document(event.Event{Kind: scalarr}),
		lines("+doc", `=val :""`, "-doc"):                   document(event.Event{Kind: scalarr, Plain: true}),
		lines("+doc", `=val &b "a"`, "-doc"):                document(event.Event{Kind: scalarr, Anchor: "b", Text: "a"}),
		lines("+doc", `=val &b :"a"`, "-doc"):               document(event.Event{Kind: scalarr, Anchor: "b", Text: "a", Plain: true}),
		lines("+doc", `=val !!int "a"`, "-doc"):             document(event.Event{Kind: scalarr, Tag: "int", Text: "a"}),
		lines("+doc", `=val !c "a"`, "-doc"):                document(event.Event{Kind: scalarr, Tag: "!c", Text: "a"}),
		lines("+doc", `=val &b !!null :"a"`, "-doc"):        document(event.Event{Kind: scalarr, Anchor: "b", Tag: "null", Text: "a", Plain: true}),
		lines("+doc", `=val " &a !b :\"c\"\n"`, "-doc"):     document(event.Event{Kind: scalarr, Text: " &a !b :\"c\"\n"}),
		lines("+doc", `=val ":"`, "-doc"):                   document(event.Event{Kind: scalarr, Text: ":"}),
		lines("+doc", `=val :":"`, "-doc"):                  document(event.Event{Kind: scalarr, Text: ":", Plain: true}),
		lines("+doc", `=val "\0\ufeff\\é"`, "-doc"):         document(event.Event{Kind: scalarr, Text: "\x00\ufeff\\é"}),
		lines("+doc", "=ali *a", "-doc"):                    document(event.Event{Kind: alias, Anchor: "a"}),
		lines("+doc", "=ali *-", "-doc"):                    document(event.Event{Kind: alias, Anchor: "-"}),
		lines("+doc", "=ali *"+long, "-doc"):                document(event.Event{Kind: alias, Anchor: long}),
		lines("+doc", "+seq", "-seq", "-doc"):               document(row(seq, seqEnd)...),
		lines("+doc", "+map", "-map", "-doc"):               document(row(mapp, mapEnd)...),
		lines("+doc", "+seq &a", "-seq", "-doc"):            document(event.Event{Kind: seq, Anchor: "a"}, event.Event{Kind: seqEnd}),
		lines("+doc", "+seq !!seq", "-seq", "-doc"):         document(event.Event{Kind: seq, Tag: "seq"}, event.Event{Kind: seqEnd}),
		lines("+doc", "+map &"+long+" !a-", "-map", "-doc"): document(event.Event{Kind: mapp, Anchor: long, Tag: "!a-"}, event.Event{Kind: mapEnd}),
		lines("+doc", `=val "a"`, "-doc", "+doc", "+map", "=ali *a", "+seq", "-seq", "-map", "-doc"): slices.Concat(
			document(event.Event{Kind: scalarr, Text: "a"}), document(row(mapp, alias, seq, seqEnd, mapEnd)...)),
	} {
		if got := event.Print(l); got != s {
			t.Errorf("Print(%+v): %q; want %q", l, got, s)
		}
		if got, e := event.Parse(s); e != api.OK || !slices.Equal(got, l) {
			t.Errorf("Parse(%q): %+v, %d; want %+v", s, got, e, l)
		}
	}
}

// P6.3: nothing, if they are not Right.
func TestPrintOfWrong(t *testing.T) {
	for _, l := range [][]event.Event{
		row(begin), row(scalarr), row(begin, end), row(begin, seq, mapEnd, end), row(begin, 8, end), row(-1), row(begin, -1, end), deep(41, false), deep(41, true),
		document(event.Event{Kind: scalarr, Text: "\xff"}), document(event.Event{Kind: scalarr, Anchor: "a b"}), document(event.Event{Kind: alias}),
		document(event.Event{Kind: alias, Anchor: "a", Tag: "str"}), document(event.Event{Kind: scalarr, Tag: "!"}),
		{{Kind: begin, Anchor: "a"}, {Kind: scalarr}, {Kind: end}}, {{Kind: begin}, {Kind: scalarr}, {Kind: end, Plain: true}},
	} {
		if got := event.Print(l); got != "" {
			t.Errorf("Print(%+v): %q", l, got)
		}
	}
}

// P6.4: lines that are those of no events.
func TestParseOfWrong(t *testing.T) {
	long := strings.Repeat("x", 41)
	wrong := []string{
		// no lines, or no end of the last, or what is no event's
		"\n", "\n\n", "+doc", "+doc\n", "a", "a\n", " ", "+doc\n=val \"a\"\n-doc", "\n+doc\n=val \"a\"\n-doc\n", "+doc\n=val \"a\"\n-doc\n\n", "+doc\n\n=val \"a\"\n-doc\n", "+doc\r\n=val \"a\"\r\n-doc\r\n",
		"+doc\n=val \"a\"\n-doc\n ", "\xff", "+doc\n=val \"a\"\n-doc\x00", "\ufeff+doc\n=val \"a\"\n-doc\n",
		// not Right
		lines("-doc"), lines("+doc", "-doc"), lines(`=val "a"`), lines("+doc", `=val "a"`), lines("+doc", `=val "a"`, `=val "a"`, "-doc"), lines("+doc", "+seq", "-map", "-doc"),
		lines("+doc", "+map", `=val "a"`, "-map", "-doc"), lines("+doc", `=val "a"`, "-doc", "-doc"),
	}
	for _, line := range []string{
		"", "=", "=va", "=val", "=val ", "=val  ", "=val a", "=val :", "=val :a", `=val"a"`, `=val:"a"`, `=val  "a"`, `=val "a" `, ` =val "a"`, `=VAL "a"`, `=value "a"`, `+val "a"`, `=val "a"b`, `=val "a`, `=val a"`, `=val 'a'`, `=val ::"a"`, `=val : "a"`, "=val \"a\"\r", "=val\t\"a\"",
		// what is quoted otherwise than Quote does
		`=val "\x41"`, `=val "\u0041"`, `=val "\/"`, "=val \"\t\"", "=val \"\u00a0\"", "=val \"\ufeff\"", "=val \"\x01\"", `=val "\x0A"`, `=val "\xAB"`, `=val "\x1F"`, `=val "\q"`, `=val "\"`, `=val "a"b"`, "=val \"\xff\"", `=val "\x07"`,
		// anchors and tags
		`=val & "a"`, `=val &"a"`, `=val &a"a"`, `=val &a  "a"`, `=val &é "a"`, `=val &a b "a"`, `=val &a &b "a"`, `=val *a "a"`, `=val &` + long + ` "a"`, `=val &a`, `=val &a `, `=val &a: "a"`,
		`=val ! "a"`, `=val !! "a"`, `=val !!no "a"`, `=val !!! "a"`, `=val !!!a "a"`, `=val !a_ "a"`, `=val !a !b "a"`, `=val str "a"`, `=val !` + long + ` "a"`, `=val !a`, `=val !!str`, `=val !a &b "a"`, `=val !!Str "a"`, `=val !!!str "a"`, `=val !!!!str "a"`, `=val :!a "a"`, `=val !a: "a"`,
		"=ali", "=ali ", "=ali a", "=ali *", "=ali * a", "=ali  *a", "=ali *a ", "=ali *a b", "=ali **a", "=ali * *a", "=ali &a", "=ali*a", "=ali *é", "=ali *" + long, "=ali *a !b", "=ali *a \"a\"", "=ali &b *a", "=ali *a:",
	} {
		wrong = append(wrong, lines("+doc", line, "-doc"))
	}
	for _, line := range []string{"+seq ", "+seq a", "+seq *a", `+seq "a"`, `+seq :"a"`, "+seq !x &a", "+seq &", "+seq !", "+seq  &a", "+seq &a  !x", "+seq &a ", "+seq !x ", "+seq &a !x ", "+seqq", "+Seq", "+seq &a &b", "+seq !a !b", "+seq\t"} {
		wrong = append(wrong, lines("+doc", line, "-seq", "-doc"), strings.ReplaceAll(lines("+doc", line, "-seq", "-doc"), "seq", "map"))
	}
	for _, behind := range []string{" ", " &a", " !x", " *a", ` "a"`, "a", " :", "\x00"} {
		wrong = append(wrong, lines("+doc"+behind, "+map", "-map", "-doc"), lines("+doc", "+map", "-map"+behind, "-doc"), lines("+doc", "+seq", "-seq"+behind, "-doc"), lines("+doc", "+map", "-map", "-doc"+behind))
	}
	for _, s := range wrong {
		if l, e := event.Parse(s); e != api.ErrForm || len(l) != 0 {
			t.Errorf("Parse(%q): %+v, %d; want none, %d", s, l, e, api.ErrForm)
		}
	}
}

// P6.4: 40 lists in one another may be, and 41 not.
func TestParseDepth(t *testing.T) {
	for _, many := range []int{1, 39, 40, 41, 42, 1 << 16} {
		s := "+doc\n" + strings.Repeat("+seq\n", many) + strings.Repeat("-seq\n", many) + "-doc\n"
		l, e := event.Parse(s)
		if many <= 40 && (e != api.OK || !slices.Equal(l, deep(many, false))) || many > 40 && (e != api.ErrForm || len(l) != 0) {
			t.Errorf("Parse of %d in one another: %d events, %d", many, len(l), e)
		}
	}
}

var lineForm = regexp.MustCompile(`^(?:([+-])doc|(-seq|-map)|\+(seq|map)(?: &([A-Za-z0-9_-]{1,40}))?(?: (!!?[A-Za-z0-9-]{1,40}))?|=val(?: &([A-Za-z0-9_-]{1,40}))?(?: (!!?[A-Za-z0-9-]{1,40}))? (:?)(".*")|=ali \*([A-Za-z0-9_-]{1,40}))$`)

// told: P6.4, said again: each line by its form, and all of them by Right.
func told(s string) ([]event.Event, bool) {
	if s == "" {
		return nil, true
	}
	if !strings.HasSuffix(s, "\n") || !utf8.ValidString(s) {
		return nil, false
	}
	kinds := map[string]int{"+": begin, "-": end, "-seq": seqEnd, "-map": mapEnd, "seq": seq, "map": mapp}
	var l []event.Event
	for _, line := range strings.Split(strings.TrimSuffix(s, "\n"), "\n") {
		m := lineForm.FindStringSubmatch(line)
		if m == nil {
			return nil, false
		}
		e := event.Event{Anchor: m[4] + m[6] + m[10], Plain: m[8] != ""}
		if w := m[5] + m[7]; w != "" {
			var wrong api.Errno
			if e.Tag, wrong = tag.Read(w); wrong != api.OK {
				return nil, false
			}
		}
		switch {
		case m[9] != "":
			var wrong api.Errno
			e.Kind = scalarr
			if e.Text, wrong = scalar.Unquote(m[9]); wrong != api.OK || scalar.Quote(e.Text) != m[9] {
				return nil, false
			}
		case m[10] != "":
			e.Kind = alias
		default:
			e.Kind = kinds[m[1]+m[2]+m[3]]
		}
		l = append(l, e)
	}
	return l, event.Right(l)
}

func holdParse(t *testing.T, s string) bool {
	t.Helper()
	want, ok := told(s)
	got, e := event.Parse(s)
	if ok && (e != api.OK || !slices.Equal(got, want)) || !ok && (e != api.ErrForm || len(got) != 0) {
		t.Fatalf("Parse(%q): %+v, %d; want %+v, %t", s, got, e, want, ok)
	}
	if ok && event.Print(got) != s {
		t.Fatalf("Print(%+v): %q; want %q", got, event.Print(got), s)
	}
	return ok
}

// P6.4, P6.5: all short texts of whole lines, and all lines of what tells.
func TestParseOfAllShortTexts(t *testing.T) {
	right := 0
	allOf([]string{"+doc\n", "-doc\n", "+seq\n", "-seq &a\n", "-seq\n", "+map !x\n", "-map\n", "=val \"a\"\n", "=ali *a\n"}, 5, func(s string) {
		if holdParse(t, s) {
			right++
		}
	})
	parts := []string{" ", "&", "!", "*", ":", `"`, "a", `\`, "str", "\n", `"b"`, " :"}
	for sign, rest := range map[string]string{"=val": "\n-doc\n", "=ali": "\n-doc\n", "+seq": "\n-seq\n-doc\n", "": "\n-doc\n"} {
		allOf(parts, 4, func(s string) {
			if holdParse(t, "+doc\n"+sign+s+rest) {
				right++
			}
		})
	}
	allOf(parts, 5, func(s string) {
		if holdParse(t, "+doc\n=val "+s+"\n-doc\n") {
			right++
		}
	})
	if right < 100 {
		t.Errorf("%d texts were right", right)
	}
}

// P6.4: every byte at each place of right lines: in place of another, and between two; and each byte left out.
func TestParseOfAllBytes(t *testing.T) {
	s := lines("+doc", "+map &a !!map", `=val :"a"`, "+seq !x-1", "=ali *a", "-seq", `=val &b !!str "b c\n\x01é"`, "=ali *b", "-map", "-doc")
	if !holdParse(t, s) {
		t.Fatal("the text itself")
	}
	for at := range len(s) + 1 {
		for b := range 256 {
			c := string([]byte{byte(b)})
			holdParse(t, s[:at]+c+s[at:])
			if at < len(s) {
				holdParse(t, s[:at]+c+s[at+1:])
			}
		}
		if at < len(s) {
			holdParse(t, s[:at]+s[at+1:])
		}
		holdParse(t, s[:at])
		holdParse(t, s[at:])
	}
}

// P6.4: lines doubled, left out, and changed with one another.
func TestParseOfMovedLines(t *testing.T) {
	l := strings.SplitAfter(lines("+doc", "+map &a !!map", `=val :"a"`, "+seq !x-1", "=ali *a", "-seq", "-map", "-doc", "+doc", `=val "b"`, "-doc"), "\n")
	for i := range l {
		holdParse(t, strings.Join(slices.Delete(slices.Clone(l), i, i+1), ""))
		for j := range l {
			holdParse(t, strings.Join(slices.Insert(slices.Clone(l), i, l[j]), ""))
			moved := slices.Clone(l)
			moved[i], moved[j] = l[j], l[i]
			holdParse(t, strings.Join(moved, ""))
		}
	}
}

// P6.5: all short rows that are right come back, with all kinds of fields.
func TestBack(t *testing.T) {
	fields := []event.Event{
		{}, {Anchor: "a"}, {Tag: "str"}, {Tag: "!x"}, {Anchor: "b-_1", Tag: "seq"}, {Text: "a \"b\""}, {Text: "\n", Plain: true}, {Anchor: "c", Tag: "!a", Text: " &a", Plain: true},
	}
	seen := map[string]bool{}
	back := func(l []event.Event) {
		s := event.Print(l)
		got, e := event.Parse(s)
		if e != api.OK || !slices.Equal(got, l) {
			t.Fatalf("Parse(%q): %+v, %d; want %+v", s, got, e, l)
		}
		seen[s] = true
	}
	rows := 0
	allRows([]int{2, 3, 4, 5, 6, 7}, 6, func(kinds []int) {
		l := document(row(kinds...)...)
		if !event.Right(l) {
			return
		}
		for at := range l {
			for _, f := range fields {
				one := slices.Clone(l)
				one[at] = f
				one[at].Kind = l[at].Kind
				if event.Right(one) && (f != event.Event{} || at == 0) {
					rows++
					back(one)
					back(slices.Concat(one, l))
				}
			}
		}
	})
	if rows < 1000 || len(seen) < rows {
		t.Errorf("%d rows, %d texts", rows, len(seen))
	}
}

// P6.3, P6.5: every character, in a text of a scalar.
func TestBackOfAllCharacters(t *testing.T) {
	var all strings.Builder
	for r := rune(0); r <= utf8.MaxRune; r++ {
		if utf8.ValidRune(r) {
			all.WriteRune(r)
		}
		if r < 0x300 {
			l := document(event.Event{Kind: scalarr, Text: string(r)})
			want := lines("+doc", "=val "+scalar.Quote(string(r)), "-doc")
			if got := event.Print(l); got != want {
				t.Fatalf("Print of the character %d: %q; want %q", r, got, want)
			}
		}
	}
	l := document(event.Event{Kind: scalarr, Text: all.String()})
	s := event.Print(l)
	if got, e := event.Parse(s); e != api.OK || !slices.Equal(got, l) || strings.Count(s, "\n") != 3 {
		t.Errorf("all characters do not come back: %d", e)
	}
}

// R4, R5: nothing handed in is changed, and no two answers share anything.
func TestSharesNothing(t *testing.T) {
	l := slices.Concat(document(row(mapp, alias, seq, seqEnd, mapEnd)...), document(event.Event{Kind: scalarr, Anchor: "a", Text: "\n"}))
	room := append(slices.Clone(l), event.Event{Kind: 9})
	kept := slices.Clone(room)
	s := event.Print(room[:len(l)])
	event.Right(room[:len(l)])
	event.Depth(room[:len(l)])
	event.Nodes(room[:len(l)])
	if !slices.Equal(room, kept) {
		t.Errorf("changed: %+v", room)
	}
	one, _ := event.Parse(s)
	two, _ := event.Parse(s)
	clear(one[:cap(one)])
	if three, _ := event.Parse(s); !slices.Equal(two, l) || !slices.Equal(three, l) || event.Print(l) != s {
		t.Errorf("%+v, %+v", two, three)
	}
}

// R1: long texts, right and wrong.
func TestLongTexts(t *testing.T) {
	const many = 1 << 17
	s := strings.Repeat(lines("+doc", "+map &a !x", `=val :"a"`, "=ali *a", "-map", "-doc"), many)
	if l, e := event.Parse(s); e != api.OK || len(l) != 6*many || event.Print(l) != s {
		t.Errorf("%d events, %d", len(l), e)
	}
	if l, e := event.Parse(s + "+doc\n"); e != api.ErrForm || len(l) != 0 {
		t.Errorf("%d events, %d", len(l), e)
	}
	for _, long := range []string{"=val", "=val &", "=val !", `=val "`, "=ali *", "+seq ", "=val :", "\n", " ", "="} {
		wrong := "+doc\n" + long + strings.Repeat("a", many) + "\n" + strings.Repeat(long, many) + "\n-doc\n"
		if l, e := event.Parse(wrong); e != api.ErrForm || len(l) != 0 {
			t.Errorf("%q: %d events, %d", long, len(l), e)
		}
	}
}
