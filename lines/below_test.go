package lines_test

import (
	"strings"
	"testing"
	"unicode/utf8"

	"grille/api"
	"grille/lex"
	"grille/lines"
	"grille/text"
)

// P5.3: the example, which pieces are the text, and how much is taken off each.
func TestText(t *testing.T) {
	for s, want := range map[string][]lines.Line{
		"|":                       {barred(0, "")},
		"|\n":                     {barred(0, "")},
		"|\n\n\n":                 {barred(0, "")},
		"|\n   \n  \n":            {barred(0, "")},
		"|\n a":                   {barred(0, "a\n")},
		"|\n a\n":                 {barred(0, "a\n")},
		"|\n a\n b":               {barred(0, "a\nb\n")},
		"|\n    a\n     b\n    c": {barred(0, "a\n b\nc\n")},
		"|   # d\n a":             {barred(0, "a\n")},
		// blank pieces
		"|\n\n a\n":                {barred(0, "\na\n")},
		"|\n\n      \n  a\n":       {barred(0, "\n\na\n")},
		"|\n a\n\n b\n":            {barred(0, "a\n\nb\n")},
		"|\n  a\n      \n \n  b":   {barred(0, "a\n\n\nb\n")},
		"|\n a\n\n\n":              {barred(0, "a\n")},
		"|\n a\n     \n":           {barred(0, "a\n")},
		"|\n a\n     ":             {barred(0, "a\n")},
		"|\n\n\n a\n\n b\n\n\n\nc": {barred(0, "\n\na\n\nb\n"), plainly(0, "c")},
		// what ends it
		"|\na":                   {barred(0, ""), plainly(0, "a")},
		"|\n\na":                 {barred(0, ""), plainly(0, "a")},
		"|\n a\nb\n c":           {barred(0, "a\n"), plainly(0, "b"), plainly(1, "c")},
		"|\n a\n---\n b":         {barred(0, "a\n"), begin, plainly(1, "b")},
		"|\n a\n...":             {barred(0, "a\n"), end},
		"|\n---\n |\n...\n  a":   {barred(0, ""), begin, barred(1, ""), end, plainly(2, "a")},
		"|\n a\n# b\n c":         {barred(0, "a\n"), plainly(1, "c")},
		"  |\n   a\n  b":         {barred(2, "a\n"), plainly(2, "b")},
		"  |\n   a\n b":          {barred(2, "a\n"), plainly(1, "b")},
		"  |\n  a":               {barred(2, ""), plainly(2, "a")},
		"  |\n     a\n\nb":       {barred(2, "a\n"), plainly(0, "b")},
		"|\n|\n|\n a":            {barred(0, ""), barred(0, ""), barred(0, "a\n")},
		" |\n  |\n   a\n |\n  b": {barred(1, "|\n a\n"), barred(1, "b\n")},
		"a\n |\n  b\n|\n c\nd":   {plainly(0, "a"), barred(1, "b\n"), barred(0, "c\n"), plainly(0, "d")},
		// what lines are elsewhere is text here
		"|\n # a\n":         {barred(0, "# a\n")},
		"|\n  # a\n  b":     {barred(0, "# a\nb\n")},
		"|\n ---\n ...":     {barred(0, "---\n...\n")},
		"|\n - a: [b\n 'c":  {barred(0, "- a: [b\n'c\n")},
		"|\n @ & ! %":       {barred(0, "@ & ! %\n")},
		"|\n \t\n":          {barred(0, "\t\n")},
		"|\n \ta\n  b\t ":   {barred(0, "\ta\n b\t \n")},
		"|\n a  \n b ":      {barred(0, "a  \nb \n")},
		"|\n \r\n a\r":      {barred(0, "\r\na\r\n")},
		"|\n é\u0085\u2028": {barred(0, "é\u0085\u2028\n")},
		"|\n \u00a0":        {barred(0, "\u00a0\n")},
	} {
		if got, e := lines.Read(s); e != api.OK || !same(got, want) {
			t.Errorf("Read(%q): %+v, %d; want %+v", s, got, e, want)
		}
	}
}

// P5.3: the line's Indent counts, not the place of its bar, and a bar at its end counts, whatever is ahead of it.
func TestTextBehindWords(t *testing.T) {
	got, e := lines.Read("a: |\n  b\n\n   c\n")
	if e != api.OK || len(got) != 1 || len(got[0].Words) != 3 || got[0].Text != "b\n\n c\n" {
		t.Errorf("Read of the example: %+v, %d", got, e)
	}
	for _, ahead := range []string{"a: ", "- ", "- - b: ", "- &a !b ", "[", "'c'", "a: b: ", "!!str "} {
		for indent := range 4 {
			in := strings.Repeat(" ", indent)
			l, e := lines.Read(in + ahead + "|\n" + in + " d\n" + in + "e\n")
			if e != api.OK || len(l) != 2 || l[0].Indent != indent || l[0].Text != "d\n" || l[1].Text != "" || l[1].Indent != indent {
				t.Errorf("a bar behind %q at %d: %+v, %d", ahead, indent, l, e)
			}
		}
	}
	for _, s := range []string{"a |", "'|'", "\"|\"", "a: b|", "# |", "|a|"} {
		l, e := lines.Read("b: " + s + "\n c\n")
		if s == "|a|" {
			if e != api.ErrForm {
				t.Errorf("Read of %q: %+v, %d", s, l, e)
			}
			continue
		}
		if e != api.OK || len(l) != 2 || l[0].Text != "" || l[1].Words[0] != (lex.Word{Kind: lex.Plain, Text: "c", At: 1}) {
			t.Errorf("Read of %q, that ends with no bar: %+v, %d", s, l, e)
		}
	}
}

// P5.3: the errors, in the order of the pieces; of one piece ErrForm is the first.
func TestTextOfWrong(t *testing.T) {
	for want, l := range map[api.Errno][]string{
		api.ErrForm: {
			"|\n \xff", "|\n a\x00", "|\n \x7f", "|\n \u0080", "|\n \ufeff", "|\n \ufffe", "|\n a\n b\xc3", "|\n \xed\xa0\x80", "|\n\n\n \x01",
			"|\n  a\n \xff", "|\n  a\n \x01b", // also fewer blanks: named behind ErrForm
			"|\n  \xff\n a", "|\n \x00\n\ta", "|\n  a\n  \x01\n b",
			"|\n a\n@", "|\n a\n\xff", "|\n\xff", "|\n\x00",
			"a: | b\n c",
		},
		api.ErrIndent: {
			"|\n  a\n b", "|\n\n   a\n\n  b\n", "  |\n     a\n    b", "a: |\n   b\n  c\n", "|\n  a\n # b", "|\n  a\n  b\n c\n  d",
			"|\n  a\n b\n  \xff", "|\n  a\n b\n\t", "|\n  a\n \t", "|\n   a\n  b\n \x00", "|\n  a\n ---",
		},
		api.ErrTab:   {"|\n\ta", "|\n a\n\tb", "|\n\t", "|\n \n\t a", "  |\n\t\t\ta"},
		api.ErrQuote: {"|\n a\n'b", "'|\n  \xff\n a"},
	} {
		for _, s := range l {
			if got, e := lines.Read(s); len(got) != 0 || e != want {
				t.Errorf("Read(%q): %+v, %d; want none, %d", s, got, e, want)
			}
		}
	}
}

// P5.3: which characters may be in a text.
func TestTextOfAllCharacters(t *testing.T) {
	for r := rune(0); r <= utf8.MaxRune; r++ {
		if !utf8.ValidRune(r) || r == '\n' {
			continue
		}
		s := "|\n x" + string(r)
		got, e := lines.Read(s)
		if !text.May(r) {
			if e != api.ErrForm || len(got) != 0 {
				t.Fatalf("Read(%q): %+v, %d", s, got, e)
			}
			continue
		}
		if e != api.OK || !same(got, []lines.Line{barred(0, "x"+string(r)+"\n")}) {
			t.Fatalf("Read(%q): %+v, %d", s, got, e)
		}
	}
}

// P5.3: long texts end, and are all there.
func TestTextOfMany(t *testing.T) {
	const many = 100000
	for part, want := range map[string]string{"  a\n": "a\n", "\n": "", "  a\n\n": "a\n\n", "      \n  b\n": "\nb\n", "  a\n    \n": "a\n\n"} {
		whole := strings.TrimRight(strings.Repeat(want, many), "\n")
		if whole != "" {
			whole += "\n"
		}
		if l, e := lines.Read("|\n" + strings.Repeat(part, many)); e != api.OK || !same(l, []lines.Line{barred(0, whole)}) {
			t.Errorf("Read of a bar, and many %q: %d lines, %d", part, len(l), e)
		}
	}
	wide := strings.Repeat(" ", many)
	if l, e := lines.Read(wide + "|\n" + wide + "  a\n" + wide + " \n" + wide + "   b"); e != api.OK || !same(l, []lines.Line{barred(many, "a\n\n b\n")}) {
		t.Errorf("Read of a bar behind many blanks: %d lines, %d", len(l), e)
	}
}
