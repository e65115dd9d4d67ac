package lines_test

import (
	"regexp"
	"slices"
	"strings"
	"testing"
	"unicode/utf8"

	"grille/api"
	"grille/lex"
	"grille/lines"
	"grille/text"
)

// allOf calls see with each text of at most so many parts, of these.
func allOf(parts []string, most int, see func(s string)) {
	grow := []string{""}
	for size := 0; ; size++ {
		var next []string
		for _, s := range grow {
			see(s)
			if size < most {
				for _, p := range parts {
					next = append(next, s+p)
				}
			}
		}
		if size == most {
			return
		}
		grow = next
	}
}

func same(a, b []lines.Line) bool {
	return slices.EqualFunc(a, b, func(x, y lines.Line) bool {
		return x.Mark == y.Mark && x.Indent == y.Indent && x.Text == y.Text && slices.Equal(x.Words, y.Words)
	})
}

var (
	begin = lines.Line{Mark: lines.Begin}
	end   = lines.Line{Mark: lines.End}
)

// plainly: a line with one word, that is Plain.
func plainly(indent int, s string) lines.Line {
	return lines.Line{Indent: indent, Words: []lex.Word{{Kind: lex.Plain, Text: s, At: indent}}}
}

// barred: a line with a bar alone.
func barred(indent int, s string) lines.Line {
	return lines.Line{Indent: indent, Words: []lex.Word{{Kind: lex.Bar, At: indent}}, Text: s}
}

// P5.2: the numbers that the chapter gives the marks.
func TestMarkNumbers(t *testing.T) {
	if lines.None != 0 || lines.Begin != 1 || lines.End != 2 {
		t.Errorf("None %d, Begin %d, End %d", lines.None, lines.Begin, lines.End)
	}
}

// P5.1: blanks alone are counted, those at the beginning.
func TestIndent(t *testing.T) {
	for s, want := range map[string]int{
		"": 0, " ": 1, "   ": 3, "a": 0, " a": 1, "    a": 4, "a  ": 0, " a b ": 1, "  # a": 2,
		"\t": 0, "\t a": 0, " \ta": 1, "  \t  ": 2, "\n": 0, "\n  ": 0, "  \n  a": 2, "\r ": 0, " \x00": 1, "\x00 ": 0,
		"\u00a0 a": 0, " \u00a0a": 1, "\u2003a": 0, "\xff ": 0, "  \xff": 2, " \xc2": 1,
		strings.Repeat(" ", 100000): 100000, strings.Repeat(" ", 100000) + "a  ": 100000,
	} {
		if got := lines.Indent(s); got != want {
			t.Errorf("Indent(%.20q): %d; want %d", s, got, want)
		}
	}
	for b := range 256 {
		c := string([]byte{byte(b)})
		want := 2
		if b == 32 {
			want = 4
		}
		if got := lines.Indent("  " + c + " "); got != want {
			t.Errorf("Indent of two blanks and the byte %d: %d", b, got)
		}
	}
}

// P5.2: lines of marks and of words, and pieces that tell nothing.
func TestRead(t *testing.T) {
	for s, want := range map[string][]lines.Line{
		// nothing
		"": nil, " ": nil, "\n": nil, "\n\n\n": nil, "   \n  \n": nil, "  \n\n ": nil, "#": nil, "# a\n": nil, "  # a\n#b\n\n   #\n": nil, "#\t\n": nil, "#\r": nil,
		// words
		"a":                       {plainly(0, "a")},
		"a\n":                     {plainly(0, "a")},
		"a\n\n":                   {plainly(0, "a")},
		"\na":                     {plainly(0, "a")},
		"a\nb":                    {plainly(0, "a"), plainly(0, "b")},
		"a\n  b\n c\n":            {plainly(0, "a"), plainly(2, "b"), plainly(1, "c")},
		"a\n\n   \n# b\n  c  # d": {plainly(0, "a"), plainly(2, "c")},
		"    a   \n":              {plainly(4, "a")},
		"  - a: 'b'":              {{Indent: 2, Words: []lex.Word{{Kind: lex.Dash, At: 2}, {Kind: lex.Plain, Text: "a", At: 4}, {Kind: lex.Colon, At: 5}, {Kind: lex.Single, Text: "b", At: 7}}}},
		" é:\n\"\\n\"\n":          {{Indent: 1, Words: []lex.Word{{Kind: lex.Plain, Text: "é", At: 1}, {Kind: lex.Colon, At: 3}}}, {Words: []lex.Word{{Kind: lex.Double, Text: "\n"}}}},
		"\u00a0 a\n":              {plainly(0, "\u00a0 a")},
		"-\n-":                    {{Words: []lex.Word{{Kind: lex.Dash}}}, {Words: []lex.Word{{Kind: lex.Dash}}}},
		// marks
		"---":                     {begin},
		"...":                     {end},
		"---\n":                   {begin},
		"...\n":                   {end},
		"---   ":                  {begin},
		"... \n":                  {end},
		"--- #":                   {begin},
		"...    # a: b":           {end},
		"--- #a\n":                {begin},
		"... ##":                  {end},
		"--- # \xff\x00\t":        {begin},
		"... #\x01\n":             {end},
		"---\n---\n...\n...\n---": {begin, begin, end, end, begin},
		"a\n---\nb\n...\n  c":     {plainly(0, "a"), begin, plainly(0, "b"), end, plainly(2, "c")},
		"... a":                   {plainly(0, "... a")},
		"....":                    {plainly(0, "....")},
		"...#":                    {plainly(0, "...#")},
		"...a #":                  {plainly(0, "...a")},
		"a ---":                   {plainly(0, "a ---")},
		"a ...":                   {plainly(0, "a ...")},
		"# ---":                   nil, "# ...": nil,
		"'---'": {{Words: []lex.Word{{Kind: lex.Single, Text: "---"}}}},
	} {
		if got, e := lines.Read(s); e != api.OK || !same(got, want) {
			t.Errorf("Read(%q): %+v, %d; want %+v", s, got, e, want)
		}
	}
}

// P5.2: lex's errors, of the first piece that has one; what stands behind a mark is no remark without a blank.
func TestReadOfWrong(t *testing.T) {
	for want, l := range map[api.Errno][]string{
		api.ErrForm:  {"---#", "---a", "--- a", "----", "--- '", "--- \t", "---\t", "---\t#", "---\r", "--- \r #", "--", " ---", "  --- # a", "a\n ---\n", " ...", "...\t", "... \t#", "...\r", "... \xff", "---\x00", "-- -", "@a", "a\x00", "# \x00", "# \xff", "a\n\xff", "\xff\n\ta", "a\n|\n@", "\u00a0---\t", "\ufeff---", "\ufeffa"},
		api.ErrTab:   {"\ta", "\t", "  \t", "a\n\t", "a\n\t\n", "---\n\t---", "a: \tb\n'", "\n\n\t", "\t\n\xff", "\t# a"},
		api.ErrQuote: {"'a", "a: \"b\nc\"", "'a\nb'", "---\n...\n'", "'\n\t", "a\n'b\n\xff"},
		api.ErrTag:   {"!", "!!no a", "a: b\nc: !\n\t", "...\n!!"},
	} {
		for _, s := range l {
			if got, e := lines.Read(s); len(got) != 0 || e != want {
				t.Errorf("Read(%q): %+v, %d; want none, %d", s, got, e, want)
			}
		}
	}
}

// The shapes of P5.2: a mark, and a piece that is Blank.
var (
	beginMark = regexp.MustCompile(`(?s)^---( *| +#.*)$`)
	endMark   = regexp.MustCompile(`(?s)^\.\.\.( *| +#.*)$`)
	blankOnly = regexp.MustCompile(`^ *$`)
	blanks    = regexp.MustCompile(`^ *`)
)

// told: P5.2 and P5.3, said again.
func told(s string) (list []lines.Line, e api.Errno) {
	pieces := strings.SplitAfter(s, "\n")
	for i, p := range pieces {
		pieces[i] = strings.TrimSuffix(p, "\n")
	}
	if n := len(pieces) - 1; pieces[n] == "" {
		pieces = pieces[:n]
	}
	for at := 0; at < len(pieces); at++ {
		p := pieces[at]
		var line lines.Line
		switch {
		case blankOnly.MatchString(p):
			continue
		case beginMark.MatchString(p):
			line.Mark = 1
		case endMark.MatchString(p):
			line.Mark = 2
		default:
			if line.Words, e = lex.Words(p); e != api.OK {
				return nil, e
			}
			if len(line.Words) == 0 {
				continue
			}
			line.Indent = len(blanks.FindString(p))
			if line.Words[len(line.Words)-1].Kind == lex.Bar {
				from := at + 1
				for at+1 < len(pieces) && (blankOnly.MatchString(pieces[at+1]) || len(blanks.FindString(pieces[at+1])) > line.Indent) {
					at++
				}
				if line.Text, e = toldText(pieces[from : at+1]); e != api.OK {
					return nil, e
				}
			}
		}
		list = append(list, line)
	}
	return list, api.OK
}

func toldText(pieces []string) (string, api.Errno) {
	off, got, waiting := -1, "", ""
	for _, p := range pieces {
		if blankOnly.MatchString(p) {
			waiting += "\n"
			continue
		}
		if !utf8.ValidString(p) || strings.ContainsFunc(p, func(r rune) bool { return !text.May(r) }) {
			return "", api.ErrForm
		}
		n := len(blanks.FindString(p))
		if off < 0 {
			off = n
		}
		if n < off {
			return "", api.ErrIndent
		}
		got += waiting + p[off:] + "\n"
		waiting = ""
	}
	return got, api.OK
}

func holdAgainstTold(t *testing.T, s string) {
	t.Helper()
	got, e := lines.Read(s)
	want, f := told(s)
	if e != f || !same(got, want) || e != api.OK && len(got) != 0 {
		t.Fatalf("Read(%q): %+v, %d; want %+v, %d", s, got, e, want, f)
	}
}

// P5.2, P5.3: all short texts of what tells lines.
func TestReadOfAllShortTexts(t *testing.T) {
	allOf([]string{"\n", " ", "a", "#", "---", "...", "|", "\t", "\xff", "'", "-", ".", "\r"}, 5, func(s string) { holdAgainstTold(t, s) })
	allOf([]string{"\n", " ", "a", "#", "|"}, 8, func(s string) { holdAgainstTold(t, s) })
	allOf([]string{"\n", "\n ", "\n  ", "\n   ", "|", "a", "\x01"}, 7, func(s string) { holdAgainstTold(t, s) })
}

// P5.2, P5.3: every byte, and every character below 300, at each place of texts of each kind.
func TestReadOfEachByte(t *testing.T) {
	for _, shape := range []string{"", "--- # a\nb", "... \n", " a: b\n\n", "a: |\n  b\n\n   c\n", "- | # a\n \n b\n...", "|\n  a\n b"} {
		for at := range len(shape) + 1 {
			for c := range 300 {
				for _, put := range []string{string(rune(c)), string([]byte{byte(c)})} {
					holdAgainstTold(t, shape[:at]+put+shape[at:])
					if at < len(shape) {
						holdAgainstTold(t, shape[:at]+put+shape[at+1:])
					}
				}
			}
		}
	}
}

func endsWithBar(l []lines.Line) bool {
	if len(l) == 0 {
		return false
	}
	words := l[len(l)-1].Words
	return len(words) > 0 && words[len(words)-1].Kind == lex.Bar
}

// P5.4: two texts, one behind the other, have the lines of both, if the first one is whole, and leaves no bar open.
func TestParts(t *testing.T) {
	var texts []string
	allOf([]string{"a", "\n", " ", "|", "---", "# ", "- b: 'c'", "\n   d\n"}, 3, func(s string) { texts = append(texts, s) })
	tried := 0
	for _, first := range texts {
		a, e := lines.Read(first)
		if e != api.OK || !strings.HasSuffix(first, "\n") || len(a) == 0 || endsWithBar(a) {
			continue
		}
		for _, second := range texts {
			b, e := lines.Read(second)
			got, f := lines.Read(first + second)
			if f != e || e == api.OK && !same(got, append(slices.Clone(a), b...)) {
				t.Fatalf("Read(%q + %q): %+v, %d; the parts: %+v and %+v, %d", first, second, got, f, a, b, e)
			}
			tried++
		}
	}
	if tried < 10000 {
		t.Errorf("just %d pairs of texts were tried", tried)
	}
	// What follows a bar is its own, so that there the parts are not the whole.
	if got, e := lines.Read("|\n" + " a\n"); e != api.OK || !same(got, []lines.Line{barred(0, "a\n")}) {
		t.Errorf("Read of a bar, and its text: %+v, %d", got, e)
	}
}

// P5.2: long texts end, and have all of their lines.
func TestReadOfLongTexts(t *testing.T) {
	const many = 100000
	for part, each := range map[string]int{"a\n": 1, "\n": 0, "   \n": 0, "# a\n": 0, "---\n": 1, "... # b\n": 1, "  - a: b\n": 1, "|\n": 1, "|\n a\n\n": 1, "a\n  b\n": 2} {
		l, e := lines.Read(strings.Repeat(part, many))
		if e != api.OK || len(l) != each*many {
			t.Errorf("Read of many %q: %d lines, %d", part, len(l), e)
		}
	}
	for _, part := range []string{" ", "#"} {
		if l, e := lines.Read(strings.Repeat(part, many)); e != api.OK || len(l) != 0 {
			t.Errorf("Read of many %q: %d lines, %d", part, len(l), e)
		}
	}
}

// R4, R5: each answer is a list of its own, and so are the words of each line.
func TestLinesAreNew(t *testing.T) {
	const s = "- a: b\n---\nc: |\n  d\n- a: b\n"
	want, _ := told(s)
	first, e := lines.Read(s)
	if e != api.OK || !same(first, want) {
		t.Fatalf("Read(%q): %+v, %d", s, first, e)
	}
	for i := range first {
		for j := range first[i].Words {
			first[i].Words[j] = lex.Word{Kind: lex.Bar, Text: "x", At: -1}
		}
		_ = append(first[i].Words, lex.Word{Text: "y"})
		if i+1 < len(first) && !same(first[i+1:], want[i+1:]) {
			t.Fatalf("the words of line %d share memory with those behind it: %+v", i, first)
		}
		first[i] = lines.Line{Mark: 7}
	}
	if again, e := lines.Read(s); e != api.OK || !same(again, want) {
		t.Errorf("Read(%q) again: %+v, %d", s, again, e)
	}
}
