package parse_test

import (
	"regexp"
	"slices"
	"strings"
	"testing"

	"grille/api"
	"grille/event"
	"grille/lex"
	"grille/parse"
)

const maxDepth = 40

// signs: a sign for each kind of word, by its number.
const signs = `asd&*![]{},:-|`

// wordsOf: a word for each sign. The Texts of those that have none, and all Ats, are such as lex would not tell.
func wordsOf(s string) []lex.Word {
	var l []lex.Word
	for i, c := range s {
		w := lex.Word{Kind: strings.IndexRune(signs, c), Text: "\xff: [", At: 7 - i}
		switch w.Kind {
		case lex.Anchor, lex.Alias:
			w.Text = "x-" + string(rune('0'+i%10))
		case lex.Tag:
			w.Text = []string{"!t", "int", "seq"}[i%3]
		case lex.Single:
			w.Text = ""
		case lex.Plain:
			w.Text = "a" + string(rune('0'+i%10))
		}
		l = append(l, w)
	}
	return l
}

func signsOf(l []lex.Word) string {
	var b strings.Builder
	for _, w := range l {
		b.WriteByte(signs[w.Kind])
	}
	return b.String()
}

// The shapes of P7.1, of signs: "n" is a node that is no list and no map, "c" one that is.
var (
	leafs = regexp.MustCompile(`(?:&!?|!&?)?[asd]|\*`)
	seqs  = regexp.MustCompile(`(?:&!?|!&?)?\[(?:[nc](?:,[nc])*,?)?\]`)
	maps  = regexp.MustCompile(`(?:&!?|!&?)?\{(?:(?:n?:[nc]?|n)(?:,(?:n?:[nc]?|n))*,?)?\}`)
)

// isNode: are the signs one node, however deep? Each node is taken for one sign, from the innermost ones on.
func isNode(s string) bool {
	s = leafs.ReplaceAllString(s, "n")
	for {
		less := maps.ReplaceAllString(seqs.ReplaceAllString(s, "c"), "c")
		if less == s {
			return s == "n" || s == "c"
		}
		s = less
	}
}

// openIn: the brackets that close what the signs leave open.
func openIn(s string) (closing string) {
	for _, c := range s {
		switch c {
		case '[':
			closing = "]" + closing
		case '{':
			closing = "}" + closing
		case ']', '}':
			closing = closing[min(1, len(closing)):]
		}
	}
	return closing
}

// begun keeps what mayBegin answered.
var begun = map[string]bool{}

// mayBegin: is there a node that begins so, however deep?
func mayBegin(s string) bool {
	may, known := begun[s]
	if !known {
		closing := openIn(s)
		may = isNode(s+closing) || isNode(s+"a"+closing)
		begun[s] = may
	}
	return may
}

// flowTold: P7.1, said again, of words that stand in so many lists and maps.
func flowTold(l []lex.Word, around int) ([]event.Event, api.Errno) {
	s := signsOf(l)
	for i := range s {
		if !mayBegin(s[:i+1]) {
			return nil, api.ErrForm
		}
		if around+len(openIn(s[:i+1])) > maxDepth {
			return nil, api.ErrDeep
		}
	}
	if !isNode(s) {
		return nil, api.ErrForm
	}
	return nodeTold(l), api.OK
}

// nodeTold: the events of words that are one node. Where a map has an odd number of them a colon stands behind a key,
// and a comma, or an end, where what belongs to the key is missing; at an even number, a colon where the key is.
func nodeTold(l []lex.Word) (out []event.Event) {
	var p event.Event
	counts := []int{0}
	missing := func(kind int) {
		last := len(counts) - 1
		if inMap := last > 0 && counts[last] >= 1000; inMap && (counts[last]%2 == 0) == (kind == lex.Colon) {
			out = append(out, event.Event{Kind: event.Scalar, Plain: true})
			counts[last]++
		}
	}
	put := func(kind int, w lex.Word) {
		e := event.Event{Kind: kind, Anchor: p.Anchor, Tag: p.Tag}
		switch kind {
		case event.Scalar:
			e.Text, e.Plain = w.Text, w.Kind == lex.Plain
		case event.Alias:
			e.Anchor = w.Text
		}
		p = event.Event{}
		out = append(out, e)
		counts[len(counts)-1]++
	}
	for _, w := range l {
		switch w.Kind {
		case lex.Anchor:
			p.Anchor = w.Text
		case lex.Tag:
			p.Tag = w.Text
		case lex.Alias:
			put(event.Alias, w)
		case lex.Open:
			put(event.Seq, w)
			counts = append(counts, 0)
		case lex.Left:
			put(event.Map, w)
			counts = append(counts, 1000)
		case lex.Close:
			counts = counts[:len(counts)-1]
			out = append(out, event.Event{Kind: event.SeqEnd})
		case lex.Right:
			missing(lex.Right)
			counts = counts[:len(counts)-1]
			out = append(out, event.Event{Kind: event.MapEnd})
		case lex.Comma, lex.Colon:
			missing(w.Kind)
		default:
			put(event.Scalar, w)
		}
	}
	return out
}

// holdFlow holds Flow against what is told again: whether the words are a node.
func holdFlow(t *testing.T, s string) bool {
	t.Helper()
	l := wordsOf(s)
	kept := slices.Clone(l)
	want, f := flowTold(l, 0)
	got, e := parse.Flow(l)
	if e != f || !slices.Equal(got, want) || e != api.OK && len(got) != 0 {
		t.Fatalf("Flow(%q): %+v, %d; want %+v, %d", s, got, e, want, f)
	}
	if !slices.Equal(l, kept) {
		t.Fatalf("Flow(%q) changed the words", s)
	}
	return e == api.OK
}

// allOf calls see with each text of at most so many parts, of these.
func allOf(parts []string, most int, see func(s string)) {
	grow := []string{""}
	for size := 0; ; size++ {
		var next []string
		for _, s := range grow {
			see(s)
			if size < most {
				for _, p := range parts {
					next = append(next, s+p)
				}
			}
		}
		if size == most {
			return
		}
		grow = next
	}
}

// short tells events, each by a sign, and its fields.
func short(l []event.Event) string {
	var out []string
	for _, e := range l {
		s := []string{"<", ">", "[", "]", "{", "}", "", "*"}[e.Kind]
		if e.Kind == event.Scalar {
			s = "'" + e.Text
			if e.Plain {
				s = "." + e.Text
			}
		}
		if e.Anchor != "" && e.Kind != event.Alias {
			s += "&"
		}
		s += e.Anchor
		if e.Tag != "" {
			s += "|" + e.Tag
		}
		out = append(out, s)
	}
	return strings.Join(out, " ")
}

// lineOf: the words of a line.
func lineOf(t *testing.T, s string) []lex.Word {
	t.Helper()
	l, e := lex.Words(s)
	if e != api.OK {
		t.Fatalf("Words(%q): %d", s, e)
	}
	return l
}

// P7.1: nodes of each kind.
func TestFlow(t *testing.T) {
	for s, want := range map[string]string{
		"a": ".a", "'a'": "'a", `"a"`: "'a", "''": "'", `"~"`: "'~", "a b": ".a b", "*a": "*a",
		// properties
		"&x a": ".a&x", "!t a": ".a|!t", "&x !!int a": ".a&x|int", "!!int &x a": ".a&x|int", "&x 'a'": "'a&x", "!t ''": "'|!t", "&x []": "[&x ]", "!!seq &x []": "[&x|seq ]", "!t {}": "{|!t }", "&x !!map {a: b}": "{&x|map .a .b }", "!!int 'a'": "'a|int", "!!map []": "[|map ]",
		// lists
		"[]": "[ ]", "[a]": "[ .a ]", "[a,]": "[ .a ]", "[a, 'b', \"c\"]": "[ .a 'b 'c ]", "[a, b, ]": "[ .a .b ]", "[[]]": "[ [ ] ]", "[[], {}, *a]": "[ [ ] { } *a ]", "[[a, [b]], c]": "[ [ .a [ .b ] ] .c ]", "[&x a, !t [b], &y {}]": "[ .a&x [|!t .b ] {&y } ]", "[*a, *a,]": "[ *a *a ]",
		// maps
		"{}": "{ }", "{a: b}": "{ .a .b }", "{a: b,}": "{ .a .b }", "{a}": "{ .a . }", "{a,}": "{ .a . }", "{a:}": "{ .a . }", "{a:,}": "{ .a . }", "{:}": "{ . . }", "{: }": "{ . . }", "{:,}": "{ . . }", "{: a}": "{ . .a }", "{: , : }": "{ . . . . }",
		"{a: b, c, d:, : e, f}": "{ .a .b .c . .d . . .e .f . }", "{'a': \"b\"}": "{ 'a 'b }", "{'a' : []}": "{ 'a [ ] }", "{a: {b: {}}}": "{ .a { .b { } } }", "{a: [b, c], d}": "{ .a [ .b .c ] .d . }", "{*a : *b}": "{ *a *b }", "{*a}": "{ *a . }", "{: *a}": "{ . *a }",
		"{&x a: !t b}": "{ .a&x .b|!t }", "{!t &x 'a': &y [b]}": "{ 'a&x|!t [&y .b ] }", "{&x a}": "{ .a&x . }", "{: &x b}": "{ . .b&x }", "{a: b, a: b}": "{ .a .b .a .b }", "{a: !t {}, b}": "{ .a {|!t } .b . }",
		"[{a: b}, {c}]": "[ { .a .b } { .c . } ]",
	} {
		if got, e := parse.Flow(lineOf(t, s)); e != api.OK || short(got) != want {
			t.Errorf("Flow(%q): %s, %d; want %s", s, short(got), e, want)
		}
	}
}

// P7.1: words that are no node, or not just one.
func TestFlowOfWrong(t *testing.T) {
	for _, s := range []string{
		"", "- a", "-", "|", "- |", ":", ",", "]", "}", "a: b", "a:", ": a", "a,", ",a", "a, b", "'a' 'b'", "*a *b", "[] []", "{} a", "[]:", "[a]: b", "*a b", "a]", "a}", "[a]]", "{a}}",
		// properties
		"&x", "!t", "&x !t", "&x &y a", "!t !u a", "&x !t &y a", "&x &x a", "!t &x !t []", "&x *a", "!t *a", "&x !t *a", "&x ]", "&x ,", "&x :", "&x : a", "a &x b: ]", "'a' &x", "[] &x", "*a &x",
		"[&x]", "[&x, a]", "[a, !t]", "[&x &y a]", "[&x *a]", "[a, &x !t &y b]", "{&x}", "{&x : a}", "{a: &x}", "{a: !t, b}", "{&x *a : b}", "{a: &x *b}", "{!t !u a: b}", "{a: &x &y b}", "{a: b, &x}", "{!t ,}", "&x &y []", "!t !t {}", "&x |", "[&x |",
		// lists
		"[", "[a", "[a,", "[,", "[,]", "[a,,]", "[a,,b]", "[,a]", "['a' 'b']", "[a: b]", "[:]", "[a, : b]", "[{a: b: c}]", "[}", "[a}", "[[]", "[[a]", "[[a], ", "[[] []]", "[a [b]]", "[[b] 'a']",
		// maps
		"{", "{a", "{a:", "{a: b", "{a: b,", "{,", "{,}", "{a,,}", "{a: b,,}", "{,a}", "{'a' 'b'}", "{a: b: c}", "{: : }", "{: : a}", "{a: 'b' 'c'}", "{]", "{a]", "{a: b]", "{[a]: b}", "{{}: b}", "{[]}", "{{}}", "{&x []: a}", "{a: b, [c]}", "{a: b, {}: c}", "{a: [b}", "{a: {b}", "{[a: b", "{a: []b}", "{*a *b}", "{a: *b c}", "[a, |",
	} {
		if got, e := parse.Flow(lineOf(t, s)); e != api.ErrForm || len(got) != 0 {
			t.Errorf("Flow(%q): %s, %d; want none, %d", s, short(got), e, api.ErrForm)
		}
	}
	for _, l := range [][]lex.Word{nil, {}, {{Kind: lex.Dash}}, {{Kind: lex.Bar}}, {{Kind: lex.Open}, {Kind: lex.Dash}, {Kind: lex.Close}}, {{Kind: lex.Open}, {Kind: lex.Bar}, {Kind: lex.Close}}, {{Kind: lex.Left}, {Kind: lex.Dash}, {Kind: lex.Right}}, {{Kind: lex.Plain}, {Kind: lex.Bar}}, {{Kind: lex.Dash}, {Kind: lex.Plain}}} {
		if got, e := parse.Flow(l); e != api.ErrForm || len(got) != 0 {
			t.Errorf("Flow(%+v): %s, %d; want none, %d", l, short(got), e, api.ErrForm)
		}
	}
}

// P7.1: all short lists of words.
func TestFlowOfAllShortLists(t *testing.T) {
	right := 0
	hold := func(s string) {
		if holdFlow(t, s) {
			right++
		}
	}
	allOf(strings.Split(signs, ""), 4, hold)
	allOf(strings.Split("a&*![]{},:", ""), 5, hold)
	allOf(strings.Split("a[]{},:", ""), 6, hold)
	allOf(strings.Split("a&!{}:", ""), 5, func(s string) { hold("{" + s + "}") })
	if right < 300 {
		t.Errorf("%d lists were right", right)
	}
}

// P7.1: each word of long nodes left out, doubled, and in place of each other.
func TestFlowOfChangedNodes(t *testing.T) {
	for _, s := range []string{"&![a,!&{s:d,*,:&[],a:,!a:*,},[[]],&d,]", "{:,a,&s:!{},*:[a,{a},],:}", "[[[{a:[{:{}}]}]]]"} {
		if !holdFlow(t, s) {
			t.Fatalf("%q", s)
		}
		for i := range s {
			holdFlow(t, s[:i])
			holdFlow(t, s[i:])
			holdFlow(t, s[:i]+s[i+1:])
			for _, c := range signs {
				holdFlow(t, s[:i]+string(c)+s[i:])
				holdFlow(t, s[:i]+string(c)+s[i+1:])
			}
		}
	}
}

// P7.1: the Text of a word is its event's, whatever it is, also a text that lex would not tell; the place tells nothing.
func TestFlowTakesTexts(t *testing.T) {
	for _, text := range []string{"", "a", "a: b", "[", "# a", "\n", "\xff", "~", "null", strings.Repeat("x", 100000)} {
		for kind, plain := range map[int]bool{lex.Plain: true, lex.Single: false, lex.Double: false} {
			l := []lex.Word{{Kind: lex.Open, Text: "x", At: 9}, {Kind: lex.Anchor, Text: "a", At: -1}, {Kind: kind, Text: text, At: 5}, {Kind: lex.Close, Text: text, At: 5}}
			got, e := parse.Flow(l)
			want := []event.Event{{Kind: event.Seq}, {Kind: event.Scalar, Anchor: "a", Text: text, Plain: plain}, {Kind: event.SeqEnd}}
			if e != api.OK || !slices.Equal(got, want) {
				t.Errorf("Flow(%+v): %+v, %d", l, got, e)
			}
		}
	}
}

// P7.1: forty lists and maps in one another may be; of what is wrong beside one more, the leftmost is told.
func TestFlowDepth(t *testing.T) {
	nests := map[string]string{"[": "]", "{a:": "}", "[a,": ",]", "{:": ",}", "&[": "]", "[!{*:": "}]"}
	for begin, end := range nests {
		each := strings.Count(begin, "[") + strings.Count(begin, "{")
		for many := 36 / each; many <= 44/each; many++ {
			l := wordsOf(strings.Repeat(begin, many) + "a" + strings.Repeat(end, many))
			got, e := parse.Flow(l)
			if deep := many*each > 40; deep != (e == api.ErrDeep) || !deep && (e != api.OK || event.Depth(got) != many*each) || deep && len(got) != 0 {
				t.Errorf("Flow of %d times %q: %s, %d", many, begin, short(got), e)
			}
		}
	}
	for s, want := range map[string]api.Errno{
		strings.Repeat("[", 40):         api.ErrForm,
		strings.Repeat("[", 41):         api.ErrDeep,
		strings.Repeat("[", 41) + "}":   api.ErrDeep,
		strings.Repeat("[", 40) + "&[":  api.ErrDeep,
		strings.Repeat("[", 40) + "&!{": api.ErrDeep,
		strings.Repeat("[", 40) + "&&[": api.ErrForm,
		strings.Repeat("[", 40) + "a[":  api.ErrForm,
		strings.Repeat("[", 40) + "a,[": api.ErrDeep,
		strings.Repeat("[", 40) + ",[":  api.ErrForm,
		strings.Repeat("[", 40) + ":[":  api.ErrForm,
		strings.Repeat("[", 40) + "][":  api.ErrForm,
		strings.Repeat("[", 40) + "],[": api.ErrForm,
		strings.Repeat("[", 39) + "{[":  api.ErrForm,
		strings.Repeat("[", 39) + "{{":  api.ErrForm,
		strings.Repeat("[", 39) + "{&[": api.ErrForm,
		strings.Repeat("[", 39) + "{a[": api.ErrForm,
		strings.Repeat("[", 39) + "{:[": api.ErrDeep,
		strings.Repeat("[", 39) + "{a:": api.ErrForm,
		"a" + strings.Repeat("[", 41):   api.ErrForm,
		"[]" + strings.Repeat("[", 41):  api.ErrForm,
		"*" + strings.Repeat("[", 41):   api.ErrForm,
		"[&*" + strings.Repeat("[", 41): api.ErrForm,
	} {
		if got, e := parse.Flow(wordsOf(s)); e != want || len(got) != 0 {
			t.Errorf("Flow(%q): %s, %d; want none, %d", s, short(got), e, want)
		}
	}
	// Lists that are closed again are in none.
	wide := "[" + strings.Repeat(strings.Repeat("[", 39)+strings.Repeat("]", 39)+",", 5) + "]"
	if got, e := parse.Flow(wordsOf(wide)); e != api.OK || event.Depth(got) != 40 {
		t.Errorf("Flow of five times forty: %d", e)
	}
	for _, begin := range []string{"[", "{a:"} {
		for many := 39; many <= 40; many++ {
			allOf(strings.Split("a&![]{,:", ""), 3, func(s string) {
				holdFlow(t, strings.Repeat(begin, many)+s)
				holdFlow(t, strings.Repeat(begin, many)+s+openIn(strings.Repeat(begin, many)+s))
			})
		}
	}
}

// R1: kinds of words that there are not, names that are none, and long lists.
func TestFlowEnds(t *testing.T) {
	odd := []lex.Word{{Kind: -1}, {Kind: 14}, {Kind: lex.Anchor}, {Kind: lex.Anchor, Text: " "}, {Kind: lex.Tag}, {Kind: lex.Tag, Text: "\xff"}, {Kind: lex.Alias}, {Kind: lex.Plain}, {Kind: lex.Open}, {Kind: lex.Close}, {Kind: lex.Left}, {Kind: lex.Right}, {Kind: lex.Comma}, {Kind: lex.Colon}}
	var try func(l []lex.Word)
	try = func(l []lex.Word) {
		if got, e := parse.Flow(l); e != api.OK && len(got) != 0 {
			t.Fatalf("Flow(%+v): %+v, %d", l, got, e)
		}
		if len(l) < 4 {
			for _, w := range odd {
				try(append(slices.Clip(l), w))
			}
		}
	}
	try(nil)
	const many = 1 << 17
	for _, c := range signs {
		for _, begin := range []string{"", "[", "{"} {
			if got, e := parse.Flow(wordsOf(begin + strings.Repeat(string(c), many))); e != api.ErrForm && e != api.ErrDeep || len(got) != 0 {
				t.Errorf("Flow of %q, and many %q: %d events, %d", begin, c, len(got), e)
			}
		}
	}
	for s, want := range map[string]int{"[" + strings.Repeat("a,", many) + "]": many + 2, "{" + strings.Repeat(":,", many) + "}": 2*many + 2, "{" + strings.Repeat("&a:[{}],", many) + "}": 5*many + 2} {
		if got, e := parse.Flow(wordsOf(s)); e != api.OK || len(got) != want {
			t.Errorf("Flow of %.10q..: %d events, %d; want %d", s, len(got), e, want)
		}
	}
}
