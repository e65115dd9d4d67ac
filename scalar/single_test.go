package scalar_test

import (
	"testing"
	"unicode/utf8"

	"grille/api"
	"grille/scalar"
	"grille/text"
)

// P2.3: a text between single quotes, and back.
func TestSingle(t *testing.T) {
	for s, want := range map[string]string{
		"":                  `''`,
		"a":                 `'a'`,
		"'":                 `''''`,
		"''":                `''''''`,
		"it's":              `'it''s'`,
		"'a'":               `'''a'''`,
		" a ":               `' a '`,
		`"\n\`:              `'"\n\'`,
		"a\tb":              "'a\tb'",
		"\u0085\u00a0":      "'\u0085\u00a0'",
		"\u2028\u2029":      "'\u2028\u2029'",
		"é\ufffd\U0010ffff": "'é\ufffd\U0010ffff'",
	} {
		if got, e := scalar.Single(s); got != want || e != api.OK {
			t.Errorf("Single(%q): %q, %d; want %q", s, got, e, want)
		}
		if got, e := scalar.Unsingle(want); got != s || e != api.OK {
			t.Errorf("Unsingle(%q): %q, %d; want %q", want, got, e, s)
		}
	}
}

// P2.3: each ground for ErrQuote, in Single and, between quotes, in Unsingle.
func TestSingleOfWrong(t *testing.T) {
	wrong := []string{"\n", "\r", "\r\n", "a\nb", "a\rb", "\x00", "\x01", "\v", "\x1b", "\x7f", "\u0080", "\u009f", "\ufeff", "a\ufeff", "\ufffe", "\uffff"}
	for _, s := range append(wrong, wrongTexts...) {
		if got, e := scalar.Single(s); got != "" || e != api.ErrQuote {
			t.Errorf("Single(%q): %q, %d; want none, %d", s, got, e, api.ErrQuote)
		}
		if got, e := scalar.Unsingle("'" + s + "'"); got != "" || e != api.ErrQuote {
			t.Errorf("Unsingle('%q'): %q, %d; want none, %d", s, got, e, api.ErrQuote)
		}
	}
}

// P2.3: what is Single of no text.
func TestUnsingleOfWrong(t *testing.T) {
	for _, s := range []string{
		``, `'`, `'''`, `'''''`, `a`, `ab`, `'a`, `a'`, `"a"`, `'a"`, `"a'`, ` 'a'`, `'a' `, `a'b'`,
		`'a'b'`, `''a'`, `'a''`, `''a''`, `'a'''b'`, `'a' 'b'`, `'a\'b'`, "'a'\n", "\xff'", "'\xff",
	} {
		if got, e := scalar.Unsingle(s); got != "" || e != api.ErrQuote {
			t.Errorf("Unsingle(%q): %q, %d; want none, %d", s, got, e, api.ErrQuote)
		}
	}
}

// P2.3, P2.6: every character: it comes back, or may not be.
func TestSingleOfAllCharacters(t *testing.T) {
	for r := rune(0); r <= utf8.MaxRune; r++ {
		if !utf8.ValidRune(r) {
			continue
		}
		s := "a" + string(r)
		want, wrong := "'"+s+"'", api.OK
		switch {
		case r == '\'':
			want = "'a'''"
		case !text.May(r) || r == 10 || r == 13:
			want, wrong = "", api.ErrQuote
		}
		got, e := scalar.Single(s)
		if got != want || e != wrong {
			t.Fatalf("Single(%q): %q, %d; want %q, %d", s, got, e, want, wrong)
		}
		if e != api.OK {
			continue
		}
		if back, e := scalar.Unsingle(got); back != s || e != api.OK {
			t.Fatalf("Unsingle(%q): %q, %d; want %q", got, back, e, s)
		}
	}
}

// P2.3, P2.6: Unsingle has an answer of just those that Single tells.
func TestBackFromSingle(t *testing.T) {
	parts := []string{"'", "a", `"`, "\n", "\t"}
	from := map[string]string{}
	allOf(parts, 6, func(s string) {
		if q, e := scalar.Single(s); e == api.OK {
			from[q] = s
			if n, e := scalar.End(q); n != len(q) || e != api.OK {
				t.Fatalf("End(%q): %d, %d; want %d", q, n, e, len(q))
			}
		}
	})
	for q, s := range from {
		if back, e := scalar.Unsingle(q); back != s || e != api.OK {
			t.Fatalf("Unsingle(%q): %q, %d; want %q", q, back, e, s)
		}
	}
	allOf(parts, 7, func(q string) {
		s, ok := from[q]
		got, e := scalar.Unsingle(q)
		if ok && (got != s || e != api.OK) || !ok && (got != "" || e != api.ErrQuote) {
			t.Fatalf("Unsingle(%q): %q, %d", q, got, e)
		}
	})
}
