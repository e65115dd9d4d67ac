package tag_test

import (
	"regexp"
	"strings"
	"testing"

	"grille/tag"
)

// allOf calls see with each text of at most so many parts, of these.
func allOf(parts []string, most int, see func(s string)) {
	grow := []string{""}
	for size := 0; ; size++ {
		var next []string
		for _, s := range grow {
			see(s)
			if size < most {
				for _, p := range parts {
					next = append(next, s+p)
				}
			}
		}
		if size == most {
			return
		}
		grow = next
	}
}

// The list of P3.1, said again.
var (
	nulls  = regexp.MustCompile(`^(|~|null|Null|NULL)$`)
	bools  = regexp.MustCompile(`^(true|True|TRUE|false|False|FALSE)$`)
	ints   = regexp.MustCompile(`^([-+]?[0-9]+|0o[0-7]+|0x[0-9a-fA-F]+)$`)
	floats = regexp.MustCompile(`^([-+]?([0-9]+|\.[0-9]+|[0-9]+\.[0-9]*)([eE][-+]?[0-9]+)?|[-+]?(\.inf|\.Inf|\.INF)|\.nan|\.NaN|\.NAN)$`)
)

func resolved(s string) string {
	switch {
	case nulls.MatchString(s):
		return tag.Null
	case bools.MatchString(s):
		return tag.Bool
	case ints.MatchString(s):
		return tag.Int
	case floats.MatchString(s):
		return tag.Float
	}
	return tag.Str
}

// P3.1: the examples, each kind, and what is just beside it.
func TestResolve(t *testing.T) {
	for want, l := range map[string][]string{
		"null": {"", "~", "null", "Null", "NULL"},
		"bool": {"true", "True", "TRUE", "false", "False", "FALSE"},
		"int": {
			"0", "9", "00", "007", "08", "1234567890", "+0", "-0", "+12", "-12", strings.Repeat("9", 1000), "-" + strings.Repeat("0", 1000),
			"0o0", "0o7", "0o17", "0o01234567", "0o" + strings.Repeat("7", 1000),
			"0x0", "0x9", "0x1F", "0x1f", "0xaB", "0xa", "0xf", "0xA", "0xF", "0x0123456789abcdefABCDEF", "0xe1", "0xE", "0x" + strings.Repeat("f", 1000),
		},
		"float": {
			"1.", "1.5", "0.0", "00.5", ".5", ".05", "12.34", "+1.", "-1.", "+.5", "-.5", "+1.5", "-1.5",
			"1e3", "1E3", "1e+3", "1e-3", "1E+9", "1.e3", "1.5e3", ".5e3", ".5E-7", "+1e3", "-1.5E+03", "0e0", "+.5e+5", "1.5e007",
			strings.Repeat("9", 1000) + ".", "." + strings.Repeat("9", 1000), "1e" + strings.Repeat("9", 1000),
			".inf", ".Inf", ".INF", "+.inf", "+.Inf", "+.INF", "-.inf", "-.Inf", "-.INF",
			".nan", ".NaN", ".NAN",
		},
		"str": {
			"a", " ", "~~", "~ ", "nul", "nulls", "nULL", "NUll", "NuLL", "null ", " null", "+~", "null\n", "nil", "none",
			"tRUE", "TRue", "TrUE", "t", "yes", "no", "on", "off", "truee", "true ", " true", "!true", "fALSE", "FALse", "-true",
			"+", "-", "++1", "--1", "+-1", "-+1", "1+", "1-", "+ 1", "- 1", "1 2", " 1", "1 ", "1\n", "\t1", "12a", "a12", "1_0", "1,0", "1:30", "1'0", "/", "0/", "0:", "\u0661", "１", "\x001", "1\x00", "1\xff",
			"0o", "0o8", "0o9", "0o78", "0o7a", "0o+7", "0o-7", "+0o7", "-0o7", "0O7", "00o7", "0o7 ", "0o 7", "0o7.", "0o7e1", "o7", "0o_7", "1o7",
			"0x", "0xg", "0xG", "0x`", "0x@", "0x1g", "0x1G", "0x/", "0x:", "+0x1", "-0x1", "0x+1", "0X1F", "00x1", "x1", "0x1.", "0x1.8", "0x.8", "0x1p3", "0x1 ", "0x 1", "0x_1", "0xé", "1x1", "0b1",
			".", "..", "+.", "-.", "1..", "..1", "1..2", "1.2.3", ".1.", ".1.2", "1. 5", "1.5 ", " 1.5", "1.a", "1.-5", "1.+5", "--1.5", "+-.5", "1,5", "1.5f", "1._5",
			"e", "e5", "E5", ".e5", "+e5", "-.e5", "1e", "1E", "1.e", ".5e", "1e+", "1e-", "1.5E+", "1e++3", "1e+-3", "1e3e3", "1e3.", "1e3.5", "1e.5", "1ee3", "1eE3", "1e 3", "1e3 ", "1 e3", "1ea", "1e3a", "1e0x1", "1f3", "1d3", "1p3",
			".iNF", ".InF", ".INf", ".in", ".infi", "inf", "Inf", "INF", "++.inf", "+-.inf", "-.iNf", "+inf", "0.inf", ".inf ", " .inf", ".inf1", ".inf.", "+ .inf", "..inf", ".infinity", "1.inf",
			".Nan", ".NAn", ".naN", ".nAN", "nan", "NaN", "+.nan", "-.nan", "+.NaN", "-.NaN", "+.NAN", "-.NAN", ".nan ", ".nan1", ".na",
			"\xff", "\x80", "\ufeff1", "é",
		},
	} {
		for _, s := range l {
			if got := tag.Resolve(s); got != want {
				t.Errorf("Resolve(%q): %s; want %s", s, got, want)
			}
		}
	}
}

// P3.1: all short texts of what tells numbers.
func TestResolveOfAllShortNumbers(t *testing.T) {
	allOf([]string{"0", "7", "8", "+", "-", ".", "e", "E", "x", "o", "a", " "}, 5, func(s string) {
		if got, want := tag.Resolve(s), resolved(s); got != want {
			t.Fatalf("Resolve(%q): %s; want %s", s, got, want)
		}
	})
	allOf([]string{"0", "9", "+", "-", ".", "e", "E"}, 7, func(s string) {
		if got, want := tag.Resolve(s), resolved(s); got != want {
			t.Fatalf("Resolve(%q): %s; want %s", s, got, want)
		}
	})
}

// P3.1: the words, written with small and great letters in all ways, alone and with something ahead or behind.
func TestResolveOfAllWords(t *testing.T) {
	for _, w := range []string{"null", "true", "false", ".inf", ".nan", "~"} {
		for great := range 1 << len(w) {
			word := []byte(w)
			for i := range word {
				if great>>i&1 == 1 {
					word[i] = strings.ToUpper(w)[i]
				}
			}
			for _, ahead := range []string{"", "+", "-", ".", " ", "0", "++", "0x"} {
				for _, behind := range []string{"", ".", " ", "\n", "0", "e1", "~"} {
					s := ahead + string(word) + behind
					if got, want := tag.Resolve(s), resolved(s); got != want {
						t.Fatalf("Resolve(%q): %s; want %s", s, got, want)
					}
				}
			}
		}
	}
}

// P3.1: every byte, at each place of each shape.
func TestResolveOfEachByte(t *testing.T) {
	for _, shape := range []string{"", "~", "12", "+12", "0o17", "0x1F", "1.5", "-1.5e+3", "1.e3", ".5E-3", "-.inf", ".NaN", "null", "True"} {
		for at := range len(shape) + 1 {
			for b := range 256 {
				c := string([]byte{byte(b)})
				put := shape[:at] + c + shape[at:]
				instead := put
				if at < len(shape) {
					instead = shape[:at] + c + shape[at+1:]
				}
				for _, s := range []string{put, instead} {
					if got, want := tag.Resolve(s), resolved(s); got != want {
						t.Fatalf("Resolve(%q): %s; want %s", s, got, want)
					}
				}
			}
		}
	}
}
