package tag_test

import (
	"slices"
	"strings"
	"testing"

	"grille/api"
	"grille/tag"
)

var cores = []string{"null", "bool", "int", "float", "str", "seq", "map"}

// owns: tags that are "!" and a NAME.
var owns = []string{
	"!a", "!z", "!A", "!Z", "!0", "!9", "!-", "!--", "!x-1", "!int", "!null", "!Map", "!1", "!a-B-9",
	"!" + strings.Repeat("a", 39), "!" + strings.Repeat("a", 40), "!" + strings.Repeat("-", 40),
}

// noTags: what is no tag, the words of the core among it.
var noTags = []string{
	"", "!", "!!", "!!!", "a", "strs", "st", "Str", "STR", "Null", "~", " ", "int ", " int", "int\n", "integer", "list", "-", "0", "é",
	"!!null", "!!bool", "!!int", "!!float", "!!str", "!!seq", "!!map", "!!a", "!!Int", "!!!a", "!!!int", "!!!!int",
	"! ", "! a", "!a ", "!a b", " !a", "!a!", "!a!b", "a!", "a!b", "!é", "!aé", "!a_b", "!_", "!a.b", "!a/b", "!a:b", "!@", "!a[", "!a`", "!{", "!a\x00", "!\xff", "!a\n", "!a\tb", "!a,", "!+", "!\u0661", "!<a>", "!a%20",
	"!" + strings.Repeat("a", 41), "!" + strings.Repeat("0", 1000), "!" + strings.Repeat("a", 40) + " ", "!" + strings.Repeat("é", 20),
}

// P3.2: the names that the chapter gives them.
func TestNamesOfTheCore(t *testing.T) {
	if got := []string{tag.Null, tag.Bool, tag.Int, tag.Float, tag.Str, tag.Seq, tag.Map}; !slices.Equal(got, cores) {
		t.Errorf("the core: %q", got)
	}
}

// P3.2: those of the core, other tags, and what is none.
func TestCoreAndRight(t *testing.T) {
	for _, s := range cores {
		if !tag.Core(s) || !tag.Right(s) {
			t.Errorf("%q: Core %t, Right %t", s, tag.Core(s), tag.Right(s))
		}
	}
	for _, s := range owns {
		if tag.Core(s) || !tag.Right(s) {
			t.Errorf("%q: Core %t, Right %t", s, tag.Core(s), tag.Right(s))
		}
	}
	for _, s := range noTags {
		if tag.Core(s) || tag.Right(s) {
			t.Errorf("%q: Core %t, Right %t", s, tag.Core(s), tag.Right(s))
		}
	}
}

// P3.2: which bytes a NAME is of, at each of its places, and how many.
func TestRightOfEachByteAndLength(t *testing.T) {
	const inNames = "-0123456789ABCDEFGHIJKLMNOPQRSTUVWXYZabcdefghijklmnopqrstuvwxyz"
	for b := range 256 {
		c := string([]byte{byte(b)})
		want := strings.Contains(inNames, c)
		for _, s := range []string{"!" + c, "!" + c + "a", "!a" + c, "!a" + c + "a"} {
			if tag.Right(s) != want {
				t.Errorf("Right(%q): %t", s, !want)
			}
		}
		if tag.Right(c+"a") != (c == "!") || tag.Right(c) {
			t.Errorf("Right of what begins with %q", c)
		}
	}
	for n := range 100 {
		if s := "!" + strings.Repeat("x", n); tag.Right(s) != (n >= 1 && n <= 40) {
			t.Errorf("Right of a name of %d: %t", n, tag.Right(s))
		}
	}
}

// P3.3: how each tag is written, and that it is read again (P3.5).
func TestWordAndRead(t *testing.T) {
	words := map[string]string{}
	for _, s := range cores {
		words[s] = "!!" + s
	}
	for _, s := range owns {
		words[s] = s
	}
	for s, want := range words {
		if got := tag.Word(s); got != want {
			t.Errorf("Word(%q): %q; want %q", s, got, want)
		}
		if got, e := tag.Read(want); got != s || e != api.OK {
			t.Errorf("Read(%q): %q, %d; want %q", want, got, e, s)
		}
	}
}

// P3.3: what is no tag has no word, and is one only with the marks of the core.
func TestWordAndReadOfWrong(t *testing.T) {
	for _, s := range noTags {
		if got := tag.Word(s); got != "" {
			t.Errorf("Word(%q): %q; want none", s, got)
		}
	}
	wrong := slices.Clone(cores) // without their marks
	for _, s := range append(slices.Clone(noTags), owns...) {
		if !slices.Contains(cores, strings.TrimPrefix(s, "!!")) && !slices.Contains(owns, s) {
			wrong = append(wrong, s)
		}
		wrong = append(wrong, "!!"+s)
	}
	for _, w := range wrong {
		if got, e := tag.Read(w); got != "" || e != api.ErrTag {
			t.Errorf("Read(%q): %q, %d; want none, %d", w, got, e, api.ErrTag)
		}
	}
}

// P3.3, P3.5: all short texts: Read has an answer of just the words, and tags come back from them.
func TestBackFromWords(t *testing.T) {
	parts := []string{"!", "int", "map", "a", "-", "0", " ", "é", "_"}
	from := map[string]string{}
	allOf(parts, 5, func(s string) {
		w := tag.Word(s)
		if (w != "") != tag.Right(s) {
			t.Fatalf("Word(%q): %q, Right: %t", s, w, tag.Right(s))
		}
		if w == "" {
			return
		}
		if other, ok := from[w]; ok {
			t.Fatalf("%q is the word of %q and %q", w, other, s)
		}
		from[w] = s
	})
	allOf(parts, 5, func(w string) {
		s, ok := from[w]
		got, e := tag.Read(w)
		if ok && (got != s || e != api.OK) || !ok && (got != "" || e != api.ErrTag) {
			t.Fatalf("Read(%q): %q, %d; want %q, %t", w, got, e, s, ok)
		}
	})
}

// P3.4: each tag held against texts of each kind.
func TestFits(t *testing.T) {
	texts := map[string][]string{
		"null":  {"", "~", "null", "NULL"},
		"bool":  {"true", "FALSE"},
		"int":   {"0", "-5", "0o17", "0x1F"},
		"float": {"5.", ".5", "1e3", "-.inf", ".nan"},
		"str":   {"a", " ", "nULL", "0x", "1.2.3", "+.nan", "!a", "!!int", "é", "\xff", "int", "seq"},
	}
	fit := map[string][]string{ // by the tag: of what kinds of texts
		"null": {"null"}, "bool": {"bool"}, "int": {"int"}, "float": {"float", "int"},
		"str": {"null", "bool", "int", "float", "str"}, "seq": nil, "map": nil,
	}
	for _, own := range owns {
		fit[own] = fit["str"]
	}
	for _, no := range noTags {
		fit[no] = nil
	}
	for tg, kinds := range fit {
		for kind, l := range texts {
			for _, s := range l {
				if want := slices.Contains(kinds, kind); tag.Fits(tg, s) != want {
					t.Errorf("Fits(%q, %q): %t", tg, s, !want)
				}
			}
		}
	}
}

// P3.5: each text has one tag, of the core, which fits it; of the others that are told by a shape just Float fits an Int.
func TestOneTag(t *testing.T) {
	allOf([]string{"0", "7", ".", "e", "-", "x", "o", "~", "null", "true", "inf", "\xff"}, 4, func(s string) {
		one := tag.Resolve(s)
		if !tag.Core(one) || one == tag.Seq || one == tag.Map || !tag.Fits(one, s) || tag.Resolve(s) != one {
			t.Fatalf("Resolve(%q): %s, which does not fit", s, one)
		}
		for _, other := range []string{tag.Null, tag.Bool, tag.Int, tag.Float} {
			want := other == one || other == tag.Float && one == tag.Int
			if tag.Fits(other, s) != want {
				t.Fatalf("Fits(%s, %q): %t; it is %s", other, s, !want, one)
			}
		}
	})
}
