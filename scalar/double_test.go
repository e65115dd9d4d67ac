package scalar_test

import (
	"fmt"
	"strings"
	"testing"
	"unicode/utf8"

	"grille/api"
	"grille/scalar"
	"grille/text"
)

// letters: the table of P2.1.
var letters = map[rune]string{
	0: "0", 7: "a", 8: "b", 9: "t", 10: "n", 11: "v", 12: "f", 13: "r", 27: "e",
	133: "N", 160: "_", 8232: "L", 8233: "P",
}

// wrongTexts: bytes that are no text, as P1.2 says it.
var wrongTexts = []string{
	"\xff", "\xfe\xff", "\x80", "a\xbf", "\xc2", "\xc2a", "\xc0\x80", "\xe0\x9f\xbf", "\xed\xa0\x80", "\xed\xbf\xbf",
	"\xf0\x8f\xbf\xbf", "\xf4\x90\x80\x80", "\xf8\x88\x80\x80\x80", "\xe2\x82", "a\xffb", "é\xc3",
}

// allOf calls see with each text of at most so many parts, of these.
func allOf(parts []string, most int, see func(s string)) {
	grow := []string{""}
	for size := 0; ; size++ {
		var next []string
		for _, s := range grow {
			see(s)
			if size < most {
				for _, p := range parts {
					next = append(next, s+p)
				}
			}
		}
		if size == most {
			return
		}
		grow = next
	}
}

// P2.1: the example, and each kind of character.
func TestQuote(t *testing.T) {
	for s, want := range map[string]string{
		"a\n":            `"a\n"`,
		"":               `""`,
		"a b":            `"a b"`,
		`"`:              `"\""`,
		`\`:              `"\\"`,
		`\n`:             `"\\n"`,
		"it's/":          `"it's/"`,
		"\x00\x07\b\t":   `"\0\a\b\t"`,
		"\n\v\f\r\x1b":   `"\n\v\f\r\e"`,
		"\u0085\u00a0":   `"\N\_"`,
		"\u2028\u2029":   `"\L\P"`,
		"\u2027\u202a":   "\"\u2027\u202a\"",
		"\x01\x06\x0e":   `"\x01\x06\x0e"`,
		"\x1a\x1c\x1f":   `"\x1a\x1c\x1f"`,
		"\x7f\u0080":     `"\x7f\x80"`,
		"\u0084\u0086":   `"\x84\x86"`,
		"\u009f\u00a1":   "\"\\x9f\u00a1\"",
		"é€":             "\"é€\"",
		"\ufeff":         `"\ufeff"`,
		"a\ufeffb":       `"a\ufeffb"`,
		"\ufffd\ufffe":   "\"\ufffd\\ufffe\"",
		"\uffff":         `"\uffff"`,
		"\U00010000":     "\"\U00010000\"",
		"\U0010ffff":     "\"\U0010ffff\"",
		"\x00a\x00b":     `"\0a\0b"`, // the first bytes tell no other code here
		"a\x00\x00\x00":  `"a\0\0\0"`,
		"\x000\x017":     `"\00\x017"`,
		"\ufeff\u00e9\n": "\"\\ufeffé\\n\"",
	} {
		if got := scalar.Quote(s); got != want {
			t.Errorf("Quote(%q): %s; want %s", s, got, want)
		}
	}
}

// P2.1: what is no text.
func TestQuoteOfNoText(t *testing.T) {
	for _, s := range wrongTexts {
		if got := scalar.Quote(s); got != "" {
			t.Errorf("Quote(%q): %s; want nothing", s, got)
		}
	}
}

func quoted(r rune) string {
	switch {
	case r == 34 || r == 92:
		return `\` + string(r)
	case letters[r] != "":
		return `\` + letters[r]
	case text.May(r):
		return string(r)
	case r < 256:
		return fmt.Sprintf(`\x%02x`, r)
	case r < 65536:
		return fmt.Sprintf(`\u%04x`, r)
	}
	return fmt.Sprintf(`\U%08x`, r)
}

// P2.1, P2.2, P2.6: every character, alone: what it is quoted as, and that it comes back from that and from its number.
func TestQuoteOfAllCharacters(t *testing.T) {
	for r := rune(0); r <= utf8.MaxRune; r++ {
		if !utf8.ValidRune(r) {
			continue
		}
		s := string(r)
		want := `"` + quoted(r) + `"`
		if got := scalar.Quote(s); got != want {
			t.Fatalf("Quote(%q): %s; want %s", s, got, want)
		}
		forms := []string{want, fmt.Sprintf(`"\U%08x"`, r), fmt.Sprintf(`"\U%08X"`, r)}
		if r < 0x10000 {
			forms = append(forms, fmt.Sprintf(`"\u%04x"`, r), fmt.Sprintf(`"\u%04X"`, r))
		}
		if r < 0x100 {
			forms = append(forms, fmt.Sprintf(`"\x%02x"`, r), fmt.Sprintf(`"\x%02X"`, r))
		}
		if r != '"' && r != '\\' && r != '\n' {
			forms = append(forms, `"`+s+`"`)
		}
		for _, f := range forms {
			if got, e := scalar.Unquote(f); got != s || e != api.OK {
				t.Fatalf("Unquote(%s): %q, %d; want %q", f, got, e, s)
			}
		}
	}
}

// P2.2: each \ with what is behind it, and all others as they are.
func TestUnquote(t *testing.T) {
	for s, want := range map[string]string{
		`""`:                      "",
		`"a"`:                     "a",
		`" a "`:                   " a ",
		`"\0\a\b\t\n\v\f\r\e"`:    "\x00\a\b\t\n\v\f\r\x1b",
		`"\N\_\L\P"`:              "\u0085\u00a0\u2028\u2029",
		`"\"\\\/"`:                `"\/`,
		`"\\\\"`:                  `\\`,
		`"\\n"`:                   `\n`,
		`"\\\n"`:                  "\\\n",
		`"/'"`:                    "/'",
		`"\x41\x4a\x4A\xff\xFF"`:  "AJJ\u00ff\u00ff",
		`"\x411"`:                 "A1",
		`"\u00411\u20ac"`:         "A1€",
		`"\U000000411"`:           "A1",
		`"\U0001f600\U0010FFFF"`:  "\U0001f600\U0010ffff",
		`"\ud7ff\ue000\uFFFF"`:    "\ud7ff\ue000\uffff",
		`"\01"`:                   "\x001",
		`"\x00\u0000\U00000000"`:  "\x00\x00\x00",
		"\"\t\r\x01\x7f\"":        "\t\r\x01\x7f", // all others as they are, also those that may not be
		"\"\u0085\u00a0\ufeff\"":  "\u0085\u00a0\ufeff",
		"\"é€\U0001f600\"":        "é€\U0001f600",
		"\"a\\\"b\\\"\"":          `a"b"`,
		"\"#: - [x], {y}: &z *\"": "#: - [x], {y}: &z *",
	} {
		if got, e := scalar.Unquote(s); got != want || e != api.OK {
			t.Errorf("Unquote(%q): %q, %d; want %q", s, got, e, want)
		}
	}
}

// P2.2: each ground for ErrQuote.
func TestUnquoteOfWrong(t *testing.T) {
	wrong := []string{
		// not two double quotes
		``, `"`, `a`, `a"`, `"a`, `'a'`, `"a'`, `'a"`, ` "a"`, `"a" `, `a"b"`, `\"\"`,
		// one between them
		`"""`, `"a"b"`, `""a"`, `"a""`, `"a\\"b"`, `"a" "b"`, `""""`, `"\\\\""`,
		// a 10
		"\"\n\"", "\"a\nb\"", "\"\\\n\"", "\"a\n", "\n\"\"", "\"\"\n",
		// a \ that is none of these: nothing behind it, no such letter, too few digits, none, and what is no character
		`"\"`, `"\\\"`, `"a\"`, `"\q"`, `"\ "`, `"\'"`, `"\1"`, `"\A"`, `"\E"`, `"\l"`, `"\p"`, `"\T"`, `"\X41"`, `"\é"`, "\"\\\x00\"", "\"\\\t\"",
		`"\x"`, `"\x4"`, `"\xg0"`, `"\x0g"`, `"\x4 1"`, `"\x+4"`, `"\x-1"`, `"\x/0"`, `"\x:0"`, `"\x@0"`, `"\xG0"`, "\"\\x`0\"", `"\x_1"`, `"\xé"`,
		`"\u"`, `"\u004"`, `"\u004g"`, `"\u+041"`, `"\u00 41"`, `"\u{41}"`,
		`"\U"`, `"\U0000041"`, `"\U0000004g"`, `"\U+0000041"`,
		`"\ud800"`, `"\uDBFF"`, `"\udc00"`, `"\uDFFF"`, `"\ud83d\ude00"`,
		`"\U0000d800"`, `"\U0000DFFF"`, `"\U00110000"`, `"\U01000041"`, `"\U7fffffff"`, `"\U80000041"`, `"\UFFFFFFFF"`, `"\Uffffffbf"`,
	}
	for _, s := range wrongTexts { // no text
		wrong = append(wrong, s, `"`+s+`"`, s+`""`, `""`+s, `"\`+s+`"`)
	}
	for _, s := range wrong {
		if got, e := scalar.Unquote(s); got != "" || e != api.ErrQuote {
			t.Errorf("Unquote(%q): %q, %d; want none, %d", s, got, e, api.ErrQuote)
		}
	}
}

// P2.2: which single bytes, and characters, a \ may stand ahead of.
func TestUnquoteOfEachLetter(t *testing.T) {
	want := map[rune]string{'"': `"`, '\\': `\`, '/': "/"}
	for r, letter := range letters {
		want[rune(letter[0])] = string(r)
	}
	for r := rune(0); r < 0x3000; r++ {
		s := `"\` + string(r) + `"`
		got, e := scalar.Unquote(s)
		if w, ok := want[r]; ok && (got != w || e != api.OK) || !ok && (got != "" || e != api.ErrQuote) {
			t.Errorf("Unquote(%q): %q, %d", s, got, e)
		}
	}
}

// P2.6: texts come back from Quote, which is one line of what may be, and ends where End says.
func TestBackFromQuote(t *testing.T) {
	parts := []string{`"`, `\`, "'", "n", "0", "x41", "\n", "\x00", "\u0085", "é", "\ufeff", "\U0001f600"}
	allOf(parts, 4, func(s string) {
		q := scalar.Quote(s)
		if back, e := scalar.Unquote(q); back != s || e != api.OK {
			t.Fatalf("Unquote(%s): %q, %d; want %q", q, back, e, s)
		}
		if n, e := scalar.End(q + s); n != len(q) || e != api.OK {
			t.Fatalf("End(%s): %d, %d; want %d", q+s, n, e, len(q))
		}
		for _, r := range q {
			if !text.May(r) || r == '\n' {
				t.Fatalf("Quote(%q): %q", s, q)
			}
		}
	})
	long := strings.Repeat("a\"\\\n\x01\u2028\ufeff€", 20000)
	if back, e := scalar.Unquote(scalar.Quote(long)); back != long || e != api.OK {
		t.Errorf("a long text does not come back: %d", e)
	}
}

// P2.2, P2.5: what Unquote takes ends where End says: at its last byte.
func TestUnquoteTakesWhatEnds(t *testing.T) {
	allOf([]string{`"`, `\`, "n", "a", "'", "\n"}, 6, func(s string) {
		_, e := scalar.Unquote(s)
		n, f := scalar.End(s)
		if e == api.OK && (f != api.OK || n != len(s)) {
			t.Fatalf("Unquote takes %q, End: %d, %d", s, n, f)
		}
	})
}
