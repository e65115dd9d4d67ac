package lex_test

import (
	"regexp"
	"slices"
	"strings"
	"testing"
	"unicode/utf8"

	"grille/api"
	"grille/lex"
	"grille/scalar"
	"grille/tag"
	"grille/text"
)

// allOf calls see with each text of at most so many parts, of these.
func allOf(parts []string, most int, see func(s string)) {
	grow := []string{""}
	for size := 0; ; size++ {
		var next []string
		for _, s := range grow {
			see(s)
			if size < most {
				for _, p := range parts {
					next = append(next, s+p)
				}
			}
		}
		if size == most {
			return
		}
		grow = next
	}
}

func plain(at int, s string) lex.Word  { return lex.Word{Kind: lex.Plain, Text: s, At: at} }
func single(at int, s string) lex.Word { return lex.Word{Kind: lex.Single, Text: s, At: at} }
func double(at int, s string) lex.Word { return lex.Word{Kind: lex.Double, Text: s, At: at} }
func anchor(at int, s string) lex.Word { return lex.Word{Kind: lex.Anchor, Text: s, At: at} }
func alias(at int, s string) lex.Word  { return lex.Word{Kind: lex.Alias, Text: s, At: at} }
func tagged(at int, s string) lex.Word { return lex.Word{Kind: lex.Tag, Text: s, At: at} }
func sign(at int, kind int) lex.Word   { return lex.Word{Kind: kind, At: at} }

// P4.1: the example, and lines that have words of each row.
func TestWords(t *testing.T) {
	for s, want := range map[string][]lex.Word{
		"- a: [b, c] # d": {sign(0, lex.Dash), plain(2, "a"), sign(3, lex.Colon), sign(5, lex.Open), plain(6, "b"), sign(7, lex.Comma), plain(9, "c"), sign(10, lex.Close)},
		// nothing, and remarks
		"": nil, " ": nil, "     ": nil, "#": nil, "# a": nil, "#a": nil, "  #": nil, "  # 'a": nil, "#\t": nil, "#\r": nil, "# \" & | @": nil,
		"[ #]":   {sign(0, lex.Open)},
		"'a' #b": {single(0, "a")},
		"a #":    {plain(0, "a")},
		"a  #b":  {plain(0, "a")},
		"a # #":  {plain(0, "a")},
		// quotes
		"''":            {single(0, "")},
		`""`:            {double(0, "")},
		"'it''s'":       {single(0, "it's")},
		"''''":          {single(0, "'")},
		`"a\n\"\\b"`:    {double(0, "a\n\"\\b")},
		`"\x00\ufeff"`:  {double(0, "\x00\ufeff")},
		"\"a\tb\r\"":    {double(0, "a\tb\r")},
		"'a\tb'":        {single(0, "a\tb")},
		"'a # b: [c]'":  {single(0, "a # b: [c]")},
		`"a # b: [c]"`:  {double(0, "a # b: [c]")},
		`'a'"b"`:        {single(0, "a"), double(3, "b")},
		`"a"'b'`:        {double(0, "a"), single(3, "b")},
		"'a' 'b'":       {single(0, "a"), single(4, "b")},
		"'a'b":          {single(0, "a"), plain(3, "b")},
		"'a'&b":         {single(0, "a"), anchor(3, "b")},
		"'a':":          {single(0, "a"), sign(3, lex.Colon)},
		"'é' : 'ü'":     {single(0, "é"), sign(5, lex.Colon), single(7, "ü")},
		"\"é\",b":       {double(0, "é"), sign(4, lex.Comma), plain(5, "b")},
		"a 'b' \"c\" d": {plain(0, "a 'b' \"c\" d")},
		"it's":          {plain(0, "it's")},
		// brackets, and commas
		"[]{},":   {sign(0, lex.Open), sign(1, lex.Close), sign(2, lex.Left), sign(3, lex.Right), sign(4, lex.Comma)},
		"]}[{,,":  {sign(0, lex.Close), sign(1, lex.Right), sign(2, lex.Open), sign(3, lex.Left), sign(4, lex.Comma), sign(5, lex.Comma)},
		"[[a]]":   {sign(0, lex.Open), sign(1, lex.Open), plain(2, "a"), sign(3, lex.Close), sign(4, lex.Close)},
		"a,b":     {plain(0, "a"), sign(1, lex.Comma), plain(2, "b")},
		"a[b]c":   {plain(0, "a"), sign(1, lex.Open), plain(2, "b"), sign(3, lex.Close), plain(4, "c")},
		"a{b}c":   {plain(0, "a"), sign(1, lex.Left), plain(2, "b"), sign(3, lex.Right), plain(4, "c")},
		"a , b":   {plain(0, "a"), sign(2, lex.Comma), plain(4, "b")},
		"  [ a ]": {sign(2, lex.Open), plain(4, "a"), sign(6, lex.Close)},
		// dashes
		"-":         {sign(0, lex.Dash)},
		"- ":        {sign(0, lex.Dash)},
		"- -":       {sign(0, lex.Dash), sign(2, lex.Dash)},
		"  -   - a": {sign(2, lex.Dash), sign(6, lex.Dash), plain(8, "a")},
		"- # a":     {sign(0, lex.Dash)},
		"- []":      {sign(0, lex.Dash), sign(2, lex.Open), sign(3, lex.Close)},
		"- 'a'":     {sign(0, lex.Dash), single(2, "a")},
		"- :":       {sign(0, lex.Dash), sign(2, lex.Colon)},
		"- |":       {sign(0, lex.Dash), sign(2, lex.Bar)},
		"a - b":     {plain(0, "a - b")},
		"a-b -":     {plain(0, "a-b -")},
		// colons
		":":      {sign(0, lex.Colon)},
		": :":    {sign(0, lex.Colon), sign(2, lex.Colon)},
		":,":     {sign(0, lex.Colon), sign(1, lex.Comma)},
		":[":     {sign(0, lex.Colon), sign(1, lex.Open)},
		":]":     {sign(0, lex.Colon), sign(1, lex.Close)},
		":{":     {sign(0, lex.Colon), sign(1, lex.Left)},
		":}":     {sign(0, lex.Colon), sign(1, lex.Right)},
		"a:b":    {plain(0, "a:b")},
		"a::b":   {plain(0, "a::b")},
		"a :b":   {plain(0, "a :b")},
		"a:#b":   {plain(0, "a:#b")},
		"a:'b'":  {plain(0, "a:'b'")},
		"a: b:":  {plain(0, "a"), sign(1, lex.Colon), plain(3, "b"), sign(4, lex.Colon)},
		"a : b":  {plain(0, "a"), sign(2, lex.Colon), plain(4, "b")},
		"a:[b]":  {plain(0, "a"), sign(1, lex.Colon), sign(2, lex.Open), plain(3, "b"), sign(4, lex.Close)},
		"a:{b}":  {plain(0, "a"), sign(1, lex.Colon), sign(2, lex.Left), plain(3, "b"), sign(4, lex.Right)},
		"a:,b":   {plain(0, "a"), sign(1, lex.Colon), sign(2, lex.Comma), plain(3, "b")},
		"a:]":    {plain(0, "a"), sign(1, lex.Colon), sign(2, lex.Close)},
		"a:}":    {plain(0, "a"), sign(1, lex.Colon), sign(2, lex.Right)},
		"a: # b": {plain(0, "a"), sign(1, lex.Colon)},
		// names
		"&a":                          {anchor(0, "a")},
		"*a":                          {alias(0, "a")},
		"&a-_9Z b":                    {anchor(0, "a-_9Z"), plain(7, "b")},
		"*a ":                         {alias(0, "a")},
		"*a # b":                      {alias(0, "a")},
		"*a,*b":                       {alias(0, "a"), sign(2, lex.Comma), alias(3, "b")},
		"&a[&b]":                      {anchor(0, "a"), sign(2, lex.Open), anchor(3, "b"), sign(5, lex.Close)},
		"&a{*b}":                      {anchor(0, "a"), sign(2, lex.Left), alias(3, "b"), sign(5, lex.Right)},
		"*a:":                         {alias(0, "a"), sign(2, lex.Colon)},
		"*a: b":                       {alias(0, "a"), sign(2, lex.Colon), plain(4, "b")},
		"&a:,":                        {anchor(0, "a"), sign(2, lex.Colon), sign(3, lex.Comma)},
		"*a:[":                        {alias(0, "a"), sign(2, lex.Colon), sign(3, lex.Open)},
		"*a:]":                        {alias(0, "a"), sign(2, lex.Colon), sign(3, lex.Close)},
		"*a:{":                        {alias(0, "a"), sign(2, lex.Colon), sign(3, lex.Left)},
		"*a:}":                        {alias(0, "a"), sign(2, lex.Colon), sign(3, lex.Right)},
		"*- &-":                       {alias(0, "-"), anchor(3, "-")},
		"a &b *c":                     {plain(0, "a &b *c")},
		"a&b*c!d|e":                   {plain(0, "a&b*c!d|e")},
		"*" + strings.Repeat("x", 40): {alias(0, strings.Repeat("x", 40))},
		// tags
		"!a":                  {tagged(0, "!a")},
		"!!int 5":             {tagged(0, "int"), plain(6, "5")},
		"!!int # 5":           {tagged(0, "int")},
		"!!seq[]":             {tagged(0, "seq"), sign(5, lex.Open), sign(6, lex.Close)},
		"!!map{!b}":           {tagged(0, "map"), sign(5, lex.Left), tagged(6, "!b"), sign(8, lex.Right)},
		"!a,!!null":           {tagged(0, "!a"), sign(2, lex.Comma), tagged(3, "null")},
		"!!str: !!bool":       {tagged(0, "str"), sign(5, lex.Colon), tagged(7, "bool")},
		"!a:]":                {tagged(0, "!a"), sign(2, lex.Colon), sign(3, lex.Close)},
		"!!float !a-1 &b 'c'": {tagged(0, "float"), tagged(8, "!a-1"), anchor(13, "b"), single(16, "c")},
		// bars
		"|":         {sign(0, lex.Bar)},
		"|   ":      {sign(0, lex.Bar)},
		"| #":       {sign(0, lex.Bar)},
		"|   # a |": {sign(0, lex.Bar)},
		"a: |":      {plain(0, "a"), sign(1, lex.Colon), sign(3, lex.Bar)},
		"!a &b |":   {tagged(0, "!a"), anchor(3, "b"), sign(6, lex.Bar)},
		"[|":        {sign(0, lex.Open), sign(1, lex.Bar)},
		"'a'|":      {single(0, "a"), sign(3, lex.Bar)},
		"a |":       {plain(0, "a |")},
		"a | # b":   {plain(0, "a |")},
		// what stands without quotes
		"a b  c":         {plain(0, "a b  c")},
		"  a  ":          {plain(2, "a")},
		"a#b":            {plain(0, "a#b")},
		"a# b":           {plain(0, "a# b")},
		"é: ü":           {plain(0, "é"), sign(2, lex.Colon), plain(4, "ü")},
		"\u0085\u00a0":   {plain(0, "\u0085\u00a0")},
		"a\u00a0#b":      {plain(0, "a\u00a0#b")},
		"\U0001f600 - x": {plain(0, "\U0001f600 - x")},
		"1 ~ .5 <= ( )":  {plain(0, "1 ~ .5 <= ( )")},
		"a ? % @ ` > ^":  {plain(0, "a ? % @ ` > ^")},
		"http://a/b?c=d": {plain(0, "http://a/b?c=d")},
		"....":           {plain(0, "....")},
	} {
		got, e := lex.Words(s)
		if e != api.OK || !slices.Equal(got, want) {
			t.Errorf("Words(%q): %v, %d; want %v", s, got, e, want)
		}
	}
}

// P4.1: each error, and of several the first one from the left.
func TestWordsOfWrong(t *testing.T) {
	for want, l := range map[api.Errno][]string{
		api.ErrForm: {
			// no text, or a character that may not be, or a 10: ahead of all others, wherever it stands
			"\xff", "\x80", "a\xc3", "'\xff'", "# \xff", "\xed\xa0\x80", "\xc0\x80", "\xf4\x90\x80\x80", "\t\xff", "'a \xff", "!!no \xff", "!!no # \xff",
			"\x00", "\x01", "\x1f", "\x7f", "\u0080", "\u009f", "\ufeff", "\ufffe", "\uffff", "\ufeffa", "# \x00", "'\x00'", "\"\x07\"", "\t\x00", "'a \x00",
			"\n", "a\n", "\na", "a\nb", "# a\n", "'a\nb'", "\"\n\"", "\t\n", "'\n", "\"\n",
			// names that are none
			"&", "*", "& a", "* a", "&,", "*]", "&:", "*: a", "&a:b", "*a#", "*a'b'", "&é", "*a.b", "&a\tb", "&a\t", "&&a", "**a", "*&a", "&!a", "&a\u00a0b", "*" + strings.Repeat("x", 41), "&a:\tb", "[*]",
			// what may not stand without quotes
			"-a", "-,", "-[", "-:", "--", "---", "...", "-\t", "- --", "a: - b", "a: -", "[-]", "[- a]", "[-", ", -", "&a - b", "'a' - b", "- a, - b", "-#", "|-", ": -",
			":a", "::", ":#", ":'a'", "a::", "a:: b", "a::,", "a: :b", "a:b:: c",
			"?", "? a", "?a", "%a", "@", "@a", "`", "`a`", ">", "> a", ">-",
			"| a", "|#", "|#a", "|a", "|'a'", "|,", "| ,", "|]", "||", "| |", "|\t", "| \t", "a: |+", "[|]", "- | a", "|:", "| :",
			"[#a]", "[#", "'a'#b", "\"a\"#", "{#", ",#", "]#a", "[##",
			"a\tb", "a\t", "a \t", "a\t#b", "a \t# b", "a:\tb", "a\rb", "a\r", "\r", "'a'\r", "- \r",
			"é\t",
		},
		api.ErrTab: {"\t", " \t", "\ta", "\t# a", "\t#", "  \t'a", "-  \t", "- \ta", "a: \tb", "a: \t", "[\t]", "[a,\tb]", "'a'\t", "'a'\t'b", "\"a\" \t# b", ": \t", "&a \tb", "*a \t", "!a \t", "]\t", "\t\t", "a: 'b'\t!!no", "\t'", "\t&"},
		api.ErrQuote: {
			"'", "\"", "'a", "\"a", "'''", "'a''", "'a''b", "\"a\\\"", "\"\\", "'a\"", "\"a'", "a: 'b", "['a]", "- \"a # b", "'a' 'b", "' #",
			"\"\\q\"", "\"\\x4\"", "\"\\ud800\"", "\"\\U00110000\"", "\"\\'\"", "'a\rb'", "'\r'", "a: \"\\ \"", "\"a\\q\" \t", "\"\\q\" !!no",
		},
		api.ErrTag: {
			"!", "!!", "! a", "!!no", "!!Int", "!!int!", "!!!a", "!é", "!a_b", "!a.b", "!a:b", "!a#b", "!a\tb", "!a\t", "!,", "![", "!:", "!: a", "!<a>", "!'a'", "a: !", "[!]", "!" + strings.Repeat("a", 41),
			"!!no 'a", "!!no \t", "!!no @", "!!int5",
		},
	} {
		for _, s := range l {
			if got, e := lex.Words(s); len(got) != 0 || e != want {
				t.Errorf("Words(%q): %v, %d; want none, %d", s, got, e, want)
			}
		}
	}
}

// The shapes of P4.1's rows.
var (
	remarkNext = regexp.MustCompile(`^#`)
	wordEnds   = regexp.MustCompile(`^([],[{}]|:$|:[] ,[{}])`)
	dashNext   = regexp.MustCompile(`^-( |$)`)
	colonNext  = regexp.MustCompile(`^:($|[] ,[{}])`)
	barNext    = regexp.MustCompile(`(?s)^\|( *| +#.*)$`)
)

// told: P4.1, said again.
func told(s string) ([]lex.Word, api.Errno) {
	for _, r := range s {
		if !utf8.ValidString(s) || !text.May(r) || r == 10 {
			return nil, api.ErrForm
		}
	}
	var l []lex.Word
	at := 0
	for {
		for strings.HasPrefix(s[at:], " ") {
			at++
		}
		rest := s[at:]
		if rest == "" || remarkNext.MatchString(rest) && (at == 0 || s[at-1] == 32) {
			return l, api.OK
		}
		if rest[0] == 9 {
			return nil, api.ErrTab
		}
		w, n, e := toldNext(rest, !slices.ContainsFunc(l, func(w lex.Word) bool { return w.Kind != lex.Dash }))
		if e != api.OK {
			return nil, e
		}
		w.At = at
		l = append(l, w)
		at += n
	}
}

func toldNext(rest string, dashes bool) (w lex.Word, n int, e api.Errno) {
	shortest := func(ends func(n int) bool) int {
		for n := 1; n < len(rest); n++ {
			if ends(n) {
				return n
			}
		}
		return len(rest)
	}
	name := shortest(func(n int) bool { return rest[n] == 32 || wordEnds.MatchString(rest[n:]) })
	if i := strings.IndexByte("[]{},", rest[0]); i >= 0 {
		return lex.Word{Kind: lex.Open + i}, 1, api.OK
	}
	switch {
	case rest[0] == 34:
		if n, e = scalar.End(rest); e == api.OK {
			w.Text, e = scalar.Unquote(rest[:n])
		}
		w.Kind = lex.Double
	case rest[0] == 39:
		if n, e = scalar.End(rest); e == api.OK {
			w.Text, e = scalar.Unsingle(rest[:n])
		}
		w.Kind = lex.Single
	case dashNext.MatchString(rest) && dashes:
		return lex.Word{Kind: lex.Dash}, 1, api.OK
	case colonNext.MatchString(rest):
		return lex.Word{Kind: lex.Colon}, 1, api.OK
	case rest[0] == '&' || rest[0] == '*':
		w = lex.Word{Kind: lex.Anchor + strings.IndexByte("&*", rest[0]), Text: rest[1:name]}
		if n = name; !lex.Name(w.Text) {
			e = api.ErrForm
		}
	case rest[0] == '!':
		w.Kind, n = lex.Tag, name
		w.Text, e = tag.Read(rest[:name])
	case barNext.MatchString(rest):
		return lex.Word{Kind: lex.Bar}, 1, api.OK
	default:
		n = shortest(func(n int) bool {
			return wordEnds.MatchString(rest[n:]) || rest[n] == '#' && rest[n-1] == 32
		})
		w.Text = strings.TrimRight(rest[:n], " ")
		if !scalar.Plain(w.Text) {
			e = api.ErrForm
		}
	}
	return w, n, e
}

func holdAgainstTold(t *testing.T, s string) {
	t.Helper()
	got, e := lex.Words(s)
	want, f := told(s)
	if e != f || !slices.Equal(got, want) || e != api.OK && len(got) != 0 {
		t.Fatalf("Words(%q): %v, %d; want %v, %d", s, got, e, want, f)
	}
}

// P4.1: all short lines of what tells words.
func TestWordsOfAllShortLines(t *testing.T) {
	allOf([]string{"a", " ", ":", "#", "-", ",", "[", "]", "{", "}", "'", "\"", "&", "*", "!", "!!int", "|", "\t", "\\", "é"}, 4, func(s string) { holdAgainstTold(t, s) })
	allOf([]string{"a", " ", ":", "#", "-", ",", "'"}, 6, func(s string) { holdAgainstTold(t, s) })
	allOf([]string{"- ", "&a", "*b", "!c", "'d'", "\"e\"", "f", ": ", "[", "]", "|", " #"}, 4, func(s string) { holdAgainstTold(t, s) })
}

// P4.1: every byte, and every character below 300, at each place of lines of each kind.
func TestWordsOfEachByte(t *testing.T) {
	for _, shape := range []string{"", "a b", "- a: b # c", "'a' \"b\"", "&a !b c", "*a:", "[a, {b: c}]", "- |", "a: |  # b", "!!int 5"} {
		for at := range len(shape) + 1 {
			for c := range 300 {
				for _, put := range []string{string(rune(c)), string([]byte{byte(c)})} {
					holdAgainstTold(t, shape[:at]+put+shape[at:])
					if at < len(shape) {
						holdAgainstTold(t, shape[:at]+put+shape[at+1:])
					}
				}
			}
		}
	}
}

// P4.1: which characters may be in a line, also in a remark.
func TestWordsOfAllCharacters(t *testing.T) {
	for r := rune(0); r <= utf8.MaxRune; r++ {
		if !utf8.ValidRune(r) {
			continue
		}
		want := api.OK
		if !text.May(r) || r == '\n' {
			want = api.ErrForm
		}
		s := "# " + string(r)
		if got, e := lex.Words(s); len(got) != 0 || e != want {
			t.Fatalf("Words(%q): %v, %d; want none, %d", s, got, e, want)
		}
	}
}

// P4.4: words rise; blanks and a remark at the end change none of them, and blanks ahead just their places.
func TestPlaces(t *testing.T) {
	parts := []string{"a", "- ", " ", ":", "#", ",", "[", "'b'", "\"c\"", "&d", "*e", "!f", "|", "é"}
	allOf(parts, 4, func(s string) {
		l, e := lex.Words(s)
		for i, w := range l {
			if w.At < 0 || w.At >= len(s) || i > 0 && w.At <= l[i-1].At {
				t.Fatalf("Words(%q): %v", s, l)
			}
		}
		for _, behind := range []string{" ", "   ", " #", " # a: [b", "  ## \t& |"} {
			if got, f := lex.Words(s + behind); f != e || !slices.Equal(got, l) {
				t.Fatalf("Words(%q): %v, %d; of %q: %v, %d", s+behind, got, f, s, l, e)
			}
		}
		moved := slices.Clone(l)
		for i := range moved {
			moved[i].At += 3
		}
		if got, f := lex.Words("   " + s); f != e || !slices.Equal(got, moved) {
			t.Fatalf("Words(%q): %v, %d; want %v, %d", "   "+s, got, f, moved, e)
		}
	})
}

// P4.1: long lines end, and have all of their words.
func TestWordsOfLongLines(t *testing.T) {
	const many = 200000
	for part, each := range map[string]int{"- ": 1, "[": 1, "a, ": 2, ": ": 1, "'a' ": 1, "\"\\n\"": 1, "&a ": 1, "!!int,": 2, "{a: *b}": 5, " ": 0, "#": 0} {
		l, e := lex.Words(strings.Repeat(part, many))
		if e != api.OK || len(l) != each*many {
			t.Errorf("Words of many %q: %d of them, %d", part, len(l), e)
		}
	}
	long := strings.Repeat("a b#c:d", many)
	if l, e := lex.Words(long + " # e"); e != api.OK || !slices.Equal(l, []lex.Word{plain(0, long)}) {
		t.Errorf("Words of a long text: %d of them, %d", len(l), e)
	}
	for _, s := range []string{"'", "|", "| ", "!", "-", "*a", "\t"} {
		if l, e := lex.Words(strings.Repeat(s, many+1)); e == api.OK || len(l) != 0 {
			t.Errorf("Words of many %q: %d of them", s, len(l))
		}
	}
}

// R4, R5: each answer is a list of its own.
func TestWordsAreNew(t *testing.T) {
	const s = "- a: [b]"
	first, _ := lex.Words(s)
	second, _ := lex.Words(s)
	want := slices.Clone(second)
	for i := range first {
		first[i] = lex.Word{Kind: lex.Bar, Text: "x", At: -1}
	}
	third, e := lex.Words(s)
	if e != api.OK || !slices.Equal(second, want) || !slices.Equal(third, want) {
		t.Errorf("Words(%q): %v, then %v", s, second, third)
	}
}
