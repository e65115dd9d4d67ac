package arena_test

import (
	"slices"
	"strings"
	"testing"
	"unicode/utf8"

	"grille/arena"
	"grille/tag"
)

func str(s string) arena.Node {
	return arena.Node{Kind: arena.Scalar, Tag: "str", Text: s}
}

func seq(kids ...int) arena.Node {
	return arena.Node{Kind: arena.Seq, Tag: "seq", Kids: kids}
}

func mapp(kids ...int) arena.Node {
	return arena.Node{Kind: arena.Map, Tag: "map", Kids: kids}
}

// withKind, withTag, withText, withKids: a node that is another one but for that.
func withKind(n arena.Node, kind int) arena.Node {
	n.Kind = kind
	return n
}

func withTag(n arena.Node, t string) arena.Node {
	n.Tag = t
	return n
}

func withText(n arena.Node, s string) arena.Node {
	n.Text = s
	return n
}

func withKids(n arena.Node, kids ...int) arena.Node {
	n.Kids = kids
	return n
}

// allLists calls see with each list of at most so many numbers, from least to greatest.
func allLists(least, greatest, most int, see func(l []int)) {
	var grow func(l []int)
	grow = func(l []int) {
		see(l)
		if len(l) < most {
			for n := least; n <= greatest; n++ {
				grow(append(slices.Clip(l), n))
			}
		}
	}
	grow(nil)
}

// allGraphs calls see with each graph of so many of these nodes.
func allGraphs(nodes []arena.Node, size int, see func(g arena.Graph)) {
	g := make(arena.Graph, size)
	var put func(at int)
	put = func(at int) {
		if at == size {
			see(g)
			return
		}
		for _, n := range nodes {
			g[at] = n
			put(at + 1)
		}
	}
	put(0)
}

// twice is P8.2, said again: each key held against each other one.
func twice(g arena.Graph) bool {
	alike := func(a, b int) bool {
		if a < 0 || a >= len(g) || b < 0 || b >= len(g) {
			return false
		}
		return a == b || g[a].Kind == 0 && g[b].Kind == 0 && g[a].Tag == g[b].Tag && g[a].Text == g[b].Text
	}
	for _, n := range g {
		for i := range n.Kids {
			for j := range i {
				if n.Kind == 2 && i%2 == 0 && j%2 == 0 && alike(n.Kids[i], n.Kids[j]) {
					return true
				}
			}
		}
	}
	return false
}

// right is P8.1, said again.
func right(g arena.Graph) bool {
	ok := len(g) >= 1 && len(g) <= 2000 && !twice(g)
	for _, n := range g {
		own := strings.HasPrefix(n.Tag, "!") && tag.Right(n.Tag)
		for i, kid := range n.Kids {
			ok = ok && kid >= 0 && kid < len(g) && (n.Kind != 2 || i%2 == 1 || g[kid].Kind == 0)
		}
		switch n.Kind {
		case 0:
			ok = ok && len(n.Kids) == 0 && utf8.ValidString(n.Text) && tag.Fits(n.Tag, n.Text)
		case 1:
			ok = ok && n.Text == "" && (n.Tag == "seq" || own)
		case 2:
			ok = ok && n.Text == "" && (n.Tag == "map" || own) && len(n.Kids)%2 == 0
		default:
			ok = false
		}
	}
	return ok
}

// P8.1: the numbers that the chapter gives the kinds.
func TestKindNumbers(t *testing.T) {
	if l := []int{arena.Scalar, arena.Seq, arena.Map}; !slices.Equal(l, []int{0, 1, 2}) {
		t.Errorf("%v", l)
	}
}

// P8.1: graphs that may be.
func TestRight(t *testing.T) {
	for i, g := range []arena.Graph{
		{str("")},
		{str("a\x00\n\u2028")},
		{{Tag: "null"}},
		{{Tag: "null", Text: "~"}},
		{{Tag: "float", Text: "5"}},
		{{Tag: "!own", Text: "5"}},
		{withKids(str("a"), []int{}...)},
		{seq()},
		{mapp()},
		{seq(0)},
		{seq(0, 0, 0)},
		{withTag(seq(0, 1), "!a"), withTag(mapp(), "!b")},
		{mapp(1, 0), str("a")},
		{mapp(1, 1), str("a")},
		{mapp(1, 1, 2, 1), str("a"), str("b")},
		{mapp(1, 3, 2, 3), str("5"), {Tag: "int", Text: "5"}, mapp(1, 0)},
		{seq(1, 2), mapp(3, 3), mapp(4, 3), str("a"), str("a")}, // keys alike, but of two maps
		{mapp(1, 2), str("a"), str("a")},                        // the value is like the key
		{seq(), str("nobody's")},
	} {
		if !arena.Right(g) || !right(g) {
			t.Errorf("number %d may not be: %v", i, g)
		}
	}
}

// P8.1: graphs that may not be, by what is wrong: with the root, or with a node that nobody meets.
func TestWrong(t *testing.T) {
	for i, n := range []arena.Node{
		{},
		withKind(str("a"), -1), withKind(str("a"), 3), withKind(seq(), 3), withKind(seq(), -1), withKind(str(""), 1<<40),
		withKind(str(""), arena.Seq), withKind(seq(), arena.Scalar), withKind(seq(), arena.Map), withKind(mapp(), arena.Seq),
		withTag(seq(), ""), withTag(seq(), "map"), withTag(seq(), "str"), withTag(seq(), "null"), withTag(seq(), "!"), withTag(seq(), "!!seq"), withTag(seq(), "Seq"), withTag(seq(), "!a b"), withTag(seq(), "!"+strings.Repeat("a", 41)),
		withTag(mapp(), ""), withTag(mapp(), "seq"), withTag(mapp(), "str"), withTag(mapp(), "int"), withTag(mapp(), "!"), withTag(mapp(), "!!map"), withTag(mapp(), "a"), withTag(mapp(), "!é"),
		withTag(str("a"), ""), withTag(str("a"), "seq"), withTag(str("a"), "map"), withTag(str("a"), "int"), withTag(str("a"), "null"), withTag(str("a"), "float"), withTag(str("a"), "bool"), withTag(str("a"), "!!str"), withTag(str("a"), "!"), withTag(str("5."), "int"),
		str("\xff"), str("a\x80"), str("\xed\xa0\x80"), str("\xc0\x80"), str("\xf4\x90\x80\x80"), withTag(str("\xff"), "!own"),
		withText(seq(), "a"), withText(mapp(), "a"), withText(seq(), "\xff"), withText(withTag(seq(), "!a"), " "), withText(withTag(mapp(), "!a"), "5"),
		withKids(str("a"), 0), withKids(str("a"), 1, 1), withKids(str("a"), -1), withKids(str("a"), 5),
		seq(-1), seq(5), seq(0, 5), seq(5, 0), seq(1 << 62), seq(-1 << 63), seq(0, 1, 2, 3, 4, 5),
		mapp(1, -1), mapp(1, 5), mapp(-1, 1), mapp(5, 1), mapp(1, 2, 2, 5), mapp(5, 1, 5, 1),
		mapp(1), mapp(1, 2, 2), mapp(1, 1, 1), mapp(0), mapp(5),
		mapp(3, 1), mapp(4, 1), mapp(1, 1, 3, 1), mapp(1, 1, 4, 1),
		mapp(1, 1, 1, 1), mapp(1, 2, 2, 1, 1, 2), mapp(1, 2, 2, 2, 2, 1),
	} {
		root := arena.Graph{n, str("a"), str("b"), seq(), mapp()}
		unmet := arena.Graph{seq(1, 2), str("a"), str("b"), n, mapp()}
		for _, g := range []arena.Graph{root, unmet} {
			if arena.Right(g) || right(g) {
				t.Errorf("number %d may be: %v", i, g)
			}
			seeNothing(t, g)
		}
	}
}

// seeNothing: of what is not right there is no answer (P8.3, P8.4, P8.5).
func seeNothing(t *testing.T, g arena.Graph) {
	if arena.Order(g) != nil || arena.Normal(g) != nil || arena.Ins(g) != nil || arena.Print(g) != "" || arena.Same(g, g) {
		t.Errorf("answers for a wrong one: %v", g)
	}
	if ok := (arena.Graph{str("a")}); arena.Same(g, ok) || arena.Same(ok, g) {
		t.Errorf("the same as a right one: %v", g)
	}
}

// P8.1: how many nodes a graph may have.
func TestRightOfSizes(t *testing.T) {
	for size, want := range map[int]bool{0: false, 1: true, 2: true, 1999: true, 2000: true, 2001: false, 4000: false} {
		g := make(arena.Graph, size)
		for at := range g {
			g[at] = seq(at)
		}
		if arena.Right(g) != want {
			t.Errorf("Right of %d nodes: %t", size, !want)
		}
		if !want {
			seeNothing(t, g)
		}
	}
	seeNothing(t, nil)
	seeNothing(t, arena.Graph{})
}

// P8.1: each tag with each kind, and what a Scalar may have for a text.
func TestRightOfAllTags(t *testing.T) {
	for _, tg := range []string{"", "null", "bool", "int", "float", "str", "seq", "map", "!a", "!seq", "!", "!!seq", "!!str", "!!map", "a", "!a!"} {
		for _, s := range []string{"", "~", "true", "5", "5.", "a", "\xff", "a\n"} {
			for kind := -1; kind <= 3; kind++ {
				g := arena.Graph{{Kind: kind, Tag: tg, Text: s}}
				if arena.Right(g) != right(g) {
					t.Errorf("Right(%v): %t", g, !right(g))
				}
			}
		}
	}
}

// P8.1, P8.2: all graphs of two nodes, right and wrong.
func TestAllSmallGraphs(t *testing.T) {
	var nodes []arena.Node
	for kind := range 4 {
		for _, tg := range []string{"str", "seq", "map", "!a"} {
			allLists(-1, 2, 3, func(kids []int) {
				nodes = append(nodes, arena.Node{Kind: kind, Tag: tg, Kids: kids})
			})
		}
		nodes = append(nodes, arena.Node{Kind: kind, Tag: "!a", Text: "a"}, arena.Node{Kind: kind, Tag: "str", Text: "\xff"})
	}
	rights := 0
	allGraphs(nodes, 2, func(g arena.Graph) {
		if arena.Twice(g) != twice(g) {
			t.Fatalf("Twice(%v): %t", g, !twice(g))
		}
		if arena.Right(g) != right(g) {
			t.Fatalf("Right(%v): %t", g, !right(g))
		}
		if right(g) {
			rights++
		}
	})
	if rights == 0 {
		t.Error("none of them is right")
	}
}

// P8.2: keys that are alike, and keys that are not, in right and in wrong graphs.
func TestTwice(t *testing.T) {
	a, b, other, own := str("a"), str("b"), withTag(str("a"), "int"), withTag(str("a"), "!a")
	for i, see := range []struct {
		g    arena.Graph
		want bool
	}{
		{nil, false},
		{arena.Graph{a, a}, false},
		{arena.Graph{seq(1, 1, 1, 1), a}, false},
		{arena.Graph{mapp(1, 1), a}, false},
		{arena.Graph{mapp(1, 2, 1, 2), a, b}, true},
		{arena.Graph{mapp(1, 2, 3, 2), a, b, a}, true},
		{arena.Graph{mapp(1, 0, 2, 0, 3, 0), a, b, b}, true},
		{arena.Graph{mapp(1, 0, 2, 0, 3, 0), a, b, a}, true},
		{arena.Graph{mapp(1, 0, 2, 0), a, b}, false},
		{arena.Graph{mapp(1, 0, 2, 0, 3, 0), a, other, own}, false},
		{arena.Graph{mapp(1, 2, 3, 2, 4, 2), a, a, b, other}, false},        // the value, too, is like a key
		{arena.Graph{a, b, seq(), mapp(0, 1, 1, 0, 0, 1)}, true},            // not the root
		{arena.Graph{mapp(1, 1), a, mapp(1, 1)}, false},                     // a key of two maps
		{arena.Graph{mapp(1, 2, 3, 2, 4), a, b, own, a}, true},              // the last one of an odd number is a key
		{arena.Graph{mapp(1, 2, 3, 2, 4), a, b, own, other}, false},         // and another one
		{arena.Graph{mapp(1, 1, 1), a}, true},                               // the value of the first one counts nothing
		{arena.Graph{mapp(0, 0, 0)}, true},                                  // a key that is the map itself
		{arena.Graph{mapp(1, 1, 1), seq()}, true},                           // one node that is no Scalar
		{arena.Graph{mapp(1, 1, 2), seq(), seq()}, false},                   // two nodes that are no Scalars, with all the same
		{arena.Graph{mapp(1, 1, 2), mapp(), mapp()}, false},                 //
		{arena.Graph{mapp(1, 1, 2), withKind(a, 3), withKind(a, 3)}, false}, // nor are these
		{arena.Graph{mapp(1, 1, 2), withKind(a, 3), a}, false},
		{arena.Graph{mapp(1, 1, 2), withKind(a, -1), withKind(a, -1)}, false},
		{arena.Graph{mapp(1, 1, 2), {}, {}}, true}, // Scalars, without anything
		{arena.Graph{mapp(0, 0, 1), {}}, false},
		{arena.Graph{mapp(1, 1, 2), {}, seq()}, false},
		{arena.Graph{mapp(1, 1, 2), withKids(a, 0), withKids(a, 1)}, true}, // Kids tell nothing of keys
		{arena.Graph{mapp(1, 1, 2), str("\xff"), str("\xff")}, true},
		{arena.Graph{mapp(1, 1, 2), str("\xff"), str("\ufffd")}, false},
		{arena.Graph{mapp(1, 1, 2), {Tag: "a", Text: "b"}, {Tag: "ab"}}, false},
		{arena.Graph{mapp(1, 1, 2), {Tag: "a"}, {Text: "a"}}, false},
		{arena.Graph{mapp(2, 0, 2, 0), a}, false}, // Kids that are no nodes
		{arena.Graph{mapp(-1, 0, -1, 0), a}, false},
		{arena.Graph{mapp(-1, 0, 1, 0, -1, 0, 1, 0), a}, true},
		{arena.Graph{mapp(7, 1, 2, 1), a, b}, false}, // and yet they stand where they stand
		{arena.Graph{mapp(1<<62, 1, -1<<63, 1), a, b}, false},
		{arena.Graph{withKind(mapp(1, 1, 1, 1), 3), a}, false},
		{arena.Graph{withKids(a, 1, 1, 1, 1), a}, false},
	} {
		if arena.Twice(see.g) != see.want || twice(see.g) != see.want {
			t.Errorf("number %d: Twice(%v): %t", i, see.g, !see.want)
		}
	}
}

// P8.2: every two places of a long map.
func TestTwiceAtAllPlaces(t *testing.T) {
	var g arena.Graph
	kids := []int{}
	for at := range 30 {
		g = append(g, str(strings.Repeat("a", at)))
		kids = append(kids, at, 0)
	}
	g = append(g, mapp(kids...))
	for i := range 30 {
		for j := range 30 {
			l := slices.Clone(g)
			l[i] = l[j]
			if arena.Twice(l) != (i != j) || arena.Right(l) != (i == j) {
				t.Fatalf("keys %d and %d: Twice %t, Right %t", i, j, arena.Twice(l), arena.Right(l))
			}
		}
	}
}
