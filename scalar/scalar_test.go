package scalar_test

import (
	"strings"
	"testing"
	"unicode/utf8"

	"grille/api"
	"grille/scalar"
	"grille/text"
)

// P2.4: what stands without quotes.
func TestPlain(t *testing.T) {
	for _, s := range []string{
		"a", "a b", "a  b", "a:b", "a :b", "a::b", "a#b", "a# b", "a##", "a -b", "a - b", "a-", "1.5", "~", "null", "é", "..", "....", "... a", "a...", "a---", ".", "=",
		"a'b\"", "a'", "a\"", "a@", "/p?", "a?", "a&b", "a*", "a!", "a|", "a>b", "a%", "a`", "(a)", "\\n", "$", "+1", ";", "<", "^", "_", "a\u00a0", "\u00a0a", "\u0085", "\u2028", "\ufffd", "\U0010ffff",
	} {
		if !scalar.Plain(s) {
			t.Errorf("Plain(%q): false", s)
		}
	}
}

// P2.4: each ground for quotes.
func TestPlainOfOthers(t *testing.T) {
	wrong := []string{
		"", " ", "  ", " a", "a ", "---", "...",
		"a\tb", "\ta", "a\t", "a\nb", "\n", "a\n", "a\rb", "\r", "a\x01", "\x00", "\x7f", "\ufeff", "\ufeffa", "a\ufffe", "\u0080",
		"a, b", "a,b", "a,", "a[", "a]b", "a{b", "a}", "a:", "a: b", "a:  b", "a b:", "a:b: c", "a #b", "a # b", "a #", "a  #",
	}
	for _, first := range "-?:,[]{}#&*!|>'\"%@`" {
		wrong = append(wrong, string(first), string(first)+"a", string(first)+" a", string(first)+string(first))
	}
	for _, s := range append(wrong, wrongTexts...) {
		if scalar.Plain(s) {
			t.Errorf("Plain(%q): true", s)
		}
	}
}

// plain: P2.4, said again byte by byte.
func plain(s string) bool {
	if len(s) == 0 || !utf8.ValidString(s) || s == "---" || s == "..." {
		return false
	}
	for _, r := range s {
		if r == 9 || r == 10 || r == 13 || !text.May(r) {
			return false
		}
	}
	for i, b := range []byte(s) {
		first, last := i == 0, i == len(s)-1
		switch {
		case (first || last) && b == 32:
			return false
		case first && strings.Contains("-?:,[]{}#&*!|>'\"%@`", string(rune(b))):
			return false
		case b == ',' || b == '[' || b == ']' || b == '{' || b == '}':
			return false
		case b == ':' && (last || s[i+1] == 32):
			return false
		case b == '#' && !first && s[i-1] == 32:
			return false
		}
	}
	return true
}

// P2.4, P2.6: all short texts of what tells; what is Plain has no quotes ahead.
func TestPlainOfAllShortTexts(t *testing.T) {
	parts := []string{" ", ":", "#", "a", ",", "]", "-", ".", "'", "\"", "\t", "é", "\x80", "\ufeff"}
	allOf(parts, 5, func(s string) {
		got := scalar.Plain(s)
		if got != plain(s) {
			t.Fatalf("Plain(%q): %t", s, got)
		}
		if _, e := scalar.End(s); got && e != api.ErrQuote {
			t.Fatalf("%q is Plain, and has a quote ahead", s)
		}
	})
}

// P2.4: every character alone, first, between, and last.
func TestPlainOfAllCharacters(t *testing.T) {
	for r := rune(0); r <= utf8.MaxRune; r++ {
		if !utf8.ValidRune(r) {
			continue
		}
		c := string(r)
		for _, s := range []string{c, c + "a", "a" + c + "b", "a" + c} {
			if scalar.Plain(s) != plain(s) {
				t.Fatalf("Plain(%q): %t", s, !plain(s))
			}
		}
	}
}

// P2.5: how far a quoted text goes.
func TestEnd(t *testing.T) {
	for s, want := range map[string]int{
		`""`: 2, `"""`: 2, `"a"`: 3, `"a" b`: 3, `"a"b"`: 3, `"\""`: 4, `"\\"`: 4, `"\\"a"`: 4, `"\\\""`: 6, `"\\\\"`: 6, `"a\"b" c`: 6, `"\x"`: 4, `"'"`: 3,
		`''`: 2, `'a'`: 3, `'a' 'b'`: 3, `''a'`: 2, `''''`: 4, `''''a`: 4, `''''''`: 6, `'a''b'c`: 6, `'''a'`: 5, `'\'`: 3, `'\''`: 0, `'"'`: 3,
		"\"\n\"": 3, "'\n'": 3, "\"\xff\"": 3, "'\xff'": 3, "\"é\" a": 4, "'é'\"": 4,
	} {
		wrong := api.OK
		if want == 0 {
			wrong = api.ErrQuote
		}
		if n, e := scalar.End(s); n != want || e != wrong {
			t.Errorf("End(%q): %d, %d; want %d, %d", s, n, e, want, wrong)
		}
	}
}

// P2.5: no quote at the beginning, or no end.
func TestEndOfWrong(t *testing.T) {
	for _, s := range []string{
		``, `a`, ` ""`, `a"b"`, `\"a"`, "`a`", "\xff\"\"", "\n''",
		`"`, `"a`, `"\`, `"\"`, `"a\"`, `"\\\"`, `"a'`, `"\\`,
		`'`, `'a`, `'''`, `'a''`, `'''a`, `'''''`, `'a"`, `'''a''`,
	} {
		if n, e := scalar.End(s); n != 0 || e != api.ErrQuote {
			t.Errorf("End(%q): %d, %d; want 0, %d", s, n, e, api.ErrQuote)
		}
	}
}

// end: P2.5, said again: each quote is judged by what is just beside it.
func end(s string) int {
	if s == "" || s[0] != 34 && s[0] != 39 {
		return 0
	}
	for i := 1; i < len(s); i++ {
		rest := s[i:]
		switch {
		case s[0] == 34 && s[i] == 34:
			ahead := len(s[1:i]) - len(strings.TrimRight(s[1:i], `\`))
			if ahead%2 == 0 {
				return i + 1
			}
		case s[0] == 39 && s[i] == 39:
			run := len(rest) - len(strings.TrimLeft(rest, "'"))
			if run%2 == 1 {
				return i + run
			}
			i += run - 1
		}
	}
	return 0
}

// P2.5: all short texts of what tells.
func TestEndOfAllShortTexts(t *testing.T) {
	allOf([]string{`"`, "'", `\`, "a", "\xff"}, 7, func(s string) {
		want, wrong := end(s), api.OK
		if want == 0 {
			wrong = api.ErrQuote
		}
		if n, e := scalar.End(s); n != want || e != wrong {
			t.Fatalf("End(%q): %d, %d; want %d, %d", s, n, e, want, wrong)
		}
	})
}
