package lex_test

import (
	"slices"
	"strings"
	"testing"

	"grille/api"
	"grille/lex"
)

// P4.1: the numbers that the chapter gives the kinds.
func TestKinds(t *testing.T) {
	kinds := []int{lex.Plain, lex.Single, lex.Double, lex.Anchor, lex.Alias, lex.Tag, lex.Open, lex.Close, lex.Left, lex.Right, lex.Comma, lex.Colon, lex.Dash, lex.Bar}
	for want, kind := range kinds {
		if kind != want {
			t.Errorf("kind %d is %d", want, kind)
		}
	}
}

// P4.2: names, and what is none.
func TestName(t *testing.T) {
	for _, s := range []string{"a", "z", "A", "Z", "0", "9", "-", "_", "--", "__", "A-_9", "a1", "1a", "true", "a-b_c", strings.Repeat("a", 39), strings.Repeat("a", 40), strings.Repeat("_", 40)} {
		if !lex.Name(s) {
			t.Errorf("Name(%q): false", s)
		}
	}
	for _, s := range []string{"", " ", "a b", " a", "a ", "é", "aé", "a.b", "a:", "a#", "&a", "*a", "a\n", "\n", "a\tb", "a\x00", "\xff", "a,b", "\u0661", strings.Repeat("a", 41), strings.Repeat("é", 20), strings.Repeat("a", 1000), strings.Repeat("a", 40) + " "} {
		if lex.Name(s) {
			t.Errorf("Name(%q): true", s)
		}
	}
}

// P4.2: which bytes a name is of, at each of its places, and how many.
func TestNameOfEachByteAndLength(t *testing.T) {
	const inNames = "-_0123456789ABCDEFGHIJKLMNOPQRSTUVWXYZabcdefghijklmnopqrstuvwxyz"
	for b := range 256 {
		c := string([]byte{byte(b)})
		want := strings.Contains(inNames, c)
		for _, s := range []string{c, c + "a", "a" + c, "a" + c + "a", c + c} {
			if lex.Name(s) != want {
				t.Errorf("Name(%q): %t", s, !want)
			}
		}
	}
	for n := range 100 {
		if s := strings.Repeat("x", n); lex.Name(s) != (n >= 1 && n <= 40) {
			t.Errorf("Name of %d letters: %t", n, lex.Name(s))
		}
	}
}

func ofKinds(kinds ...int) []lex.Word {
	var l []lex.Word
	for at, kind := range kinds {
		l = append(l, lex.Word{Kind: kind, Text: "a", At: at})
	}
	return l
}

// P4.3: lines that begin with a key, and lines that do not.
func TestKey(t *testing.T) {
	for s, want := range map[string]bool{
		"a: b": true, "a:": true, "a :": true, "'a': b": true, "\"a\": b": true, "*a : b": true, "*a:": true, ":": true, ": a": true, ":,": true,
		"&a b: c": true, "!a b: c": true, "&a !b 'c': d": true, "!b &a \"c\":": true, "&a &b &c !d !e f: g": true, "&a : b": true, "!a : b": true, "&a:": true, "!!int:": true, "&a *b: c": true,
		"a: b: c": true, "a: [": true, "a b c: d": true,
		"": false, "a": false, "# a: b": false, "&a": false, "!a": false, "&a !b": false, "&a b": false, "*a": false, "'a' b: c": false, "'a' 'b': c": false, "*a *b: c": false,
		"a, : b": false, "[a]: b": false, "[a: b]": false, "{a: b}": false, "{}: a": false, ", a: b": false, "]: a": false, "- a: b": false, "-": false, "- :": false, "|": false, "*a &b : c": false, "'a' !b : c": false,
	} {
		l, e := lex.Words(s)
		if e != api.OK || lex.Key(l) != want {
			t.Errorf("Key(%q): %t, %d; want %t", s, lex.Key(l), e, want)
		}
	}
}

// P4.3: all short lists of words, also of kinds that there are not; the list stays as it is (R5).
func TestKeyOfAllShortLists(t *testing.T) {
	kinds := []int{-1, lex.Plain, lex.Single, lex.Double, lex.Anchor, lex.Alias, lex.Tag, lex.Open, lex.Close, lex.Left, lex.Right, lex.Comma, lex.Colon, lex.Dash, lex.Bar, 14}
	lists := [][]int{nil}
	for from := 0; len(lists[from]) < 4; from++ {
		for _, kind := range kinds {
			lists = append(lists, append(slices.Clone(lists[from]), kind))
		}
	}
	for _, list := range lists {
		var b strings.Builder
		for _, kind := range list {
			switch kind {
			case lex.Anchor, lex.Tag:
				b.WriteByte('p')
			case lex.Plain, lex.Single, lex.Double, lex.Alias:
				b.WriteByte('k')
			case lex.Colon:
				b.WriteByte('c')
			default:
				b.WriteByte('x')
			}
		}
		behind := strings.TrimLeft(b.String(), "p")
		want := strings.HasPrefix(behind, "kc") || strings.HasPrefix(behind, "c")
		l := ofKinds(list...)
		if lex.Key(l) != want {
			t.Fatalf("Key of the kinds %v: %t", list, !want)
		}
		if !slices.Equal(l, ofKinds(list...)) {
			t.Fatalf("Key changed the list of the kinds %v", list)
		}
	}
	if lex.Key([]lex.Word{}) {
		t.Error("Key of an empty list: true")
	}
	if l := slices.Repeat(ofKinds(lex.Anchor, lex.Tag), 100000); lex.Key(l) || !lex.Key(append(l, ofKinds(lex.Colon)...)) {
		t.Error("Key of a long list")
	}
}
