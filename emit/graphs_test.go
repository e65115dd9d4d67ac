package emit_test

import (
	"fmt"
	"math/rand"
	"reflect"
	"slices"
	"strings"
	"testing"

	"grille/api"
	"grille/arena"
	"grille/compose"
	"grille/emit"
	"grille/flatten"
	"grille/parse"
)

func strNode(s string) arena.Node {
	return arena.Node{Kind: arena.Scalar, Tag: "str", Text: s}
}

func seqNode(kids ...int) arena.Node {
	return arena.Node{Kind: arena.Seq, Tag: "seq", Kids: kids}
}

func mapNode(kids ...int) arena.Node {
	return arena.Node{Kind: arena.Map, Tag: "map", Kids: kids}
}

func tagged(n arena.Node, t string) arena.Node {
	n.Tag = t
	return n
}

// chain: so many lists, one in the other.
func chain(deep int) arena.Graph {
	var g arena.Graph
	for at := range deep {
		g = append(g, seqNode(at+1))
	}
	g[deep-1].Kids = nil
	return g
}

// P11.3: graphs, and their lines.
func TestGraphs(t *testing.T) {
	for i, c := range []struct {
		g    arena.Graph
		want []string
	}{
		{arena.Graph{mapNode(1, 2), strNode("a"), seqNode(3, 4), strNode("b"), seqNode()}, []string{"---", "a:", "  - b", "  - []"}},
		{arena.Graph{strNode("a")}, []string{"---", "a"}},
		{arena.Graph{strNode("5")}, []string{"---", `"5"`}},
		{arena.Graph{tagged(strNode("5"), "int")}, []string{"---", "5"}},
		{arena.Graph{tagged(strNode("5"), "float")}, []string{"---", `!!float "5"`}},
		{arena.Graph{tagged(strNode(""), "null")}, []string{"---", `!!null ""`}},
		{arena.Graph{strNode("")}, []string{"---", `""`}},
		{arena.Graph{tagged(strNode("a"), "!own")}, []string{"---", `!own "a"`}},
		{arena.Graph{tagged(seqNode(), "!own")}, []string{"---", "!own []"}},
		{arena.Graph{seqNode(0)}, []string{"---", "&a1", "- *a1"}},
		{arena.Graph{tagged(mapNode(2, 0), "!m"), strNode("a"), strNode("k")}, []string{"---", "&a1 !m", "k: *a1"}},
		{arena.Graph{seqNode(2, 2, 1), strNode("a"), mapNode(1, 2)}, []string{"---", "- &a1", "  &a2 a: *a1", "- *a1", "- *a2"}},
		{arena.Graph{mapNode(1, 2, 3, 2), strNode("a"), seqNode(), strNode("b")}, []string{"---", "a: &a1 []", "b: *a1"}},
		{arena.Graph{seqNode(1, 2), strNode("a"), mapNode(1, 3), seqNode(3)}, []string{"---", "- &a1 a", "-", "  *a1: &a2", "    - *a2"}},
	} {
		want := ""
		for _, line := range c.want {
			want += line + "\n"
		}
		if got, e := emit.Graphs([]arena.Graph{c.g}); got != want || e != api.OK {
			t.Errorf("number %d: %q, %d; want %q", i, got, e, want)
		}
		comesBack(t, c.g)
	}
	for _, none := range [][]arena.Graph{nil, {}} {
		if s, e := emit.Graphs(none); s != "" || e != api.OK {
			t.Errorf("of none: %q, %d", s, e)
		}
	}
	s, e := emit.Graphs([]arena.Graph{{seqNode(0)}, {strNode("a")}, {seqNode(0)}})
	if s != "---\n&a1\n- *a1\n---\na\n---\n&a1\n- *a1\n" || e != api.OK {
		t.Errorf("of three: %q, %d", s, e)
	}
}

// P11.3: flatten's errors, ErrForm ahead of ErrDeep.
func TestGraphsOfWrong(t *testing.T) {
	fine, deep := arena.Graph{strNode("a")}, chain(41)
	for i, g := range []arena.Graph{
		nil, {}, {{Kind: 3}}, {{}}, {strNode("\xff")}, {seqNode(1)}, {seqNode(-1)}, {tagged(seqNode(), "map")}, {tagged(strNode("a"), "int")},
		{mapNode(1), strNode("a")}, {mapNode(0, 0)}, {mapNode(1, 0, 2, 0), strNode("a"), strNode("a")}, {strNode("a"), {Kind: 3}},
		slices.Repeat(arena.Graph{seqNode()}, 2001),
	} {
		for k, l := range [][]arena.Graph{{g}, {fine, g}, {g, fine}, {deep, g}, {g, deep}} {
			if s, e := emit.Graphs(l); s != "" || e != api.ErrForm {
				t.Errorf("number %d, place %d: %q, %d", i, k, s, e)
			}
		}
	}
	for k, l := range [][]arena.Graph{{deep}, {fine, deep}, {deep, fine}, {chain(2000)}} {
		if s, e := emit.Graphs(l); s != "" || e != api.ErrDeep {
			t.Errorf("place %d: %q, %d", k, s, e)
		}
	}
	if s, e := emit.Graphs([]arena.Graph{chain(40)}); e != api.OK || !strings.HasSuffix(s, "\n"+strings.Repeat(" ", 76)+"- []\n") {
		t.Errorf("40 deep: %q, %d", s, e)
	}
	comesBack(t, chain(40))
}

// alike: are two graphs the same, number by number?
func alike(a, b arena.Graph) bool {
	return slices.EqualFunc(a, b, func(m, n arena.Node) bool {
		return m.Kind == n.Kind && m.Tag == n.Tag && m.Text == n.Text && slices.Equal(m.Kids, n.Kids)
	})
}

// comesBack: is the text of these graphs, right and not too deep, that of their events, and are their Normal forms, which have the same text, read from it?
func comesBack(t *testing.T, graphs ...arena.Graph) string {
	t.Helper()
	events, _ := flatten.Events(graphs)
	want, _ := written(events)
	s, e := emit.Graphs(graphs)
	if s != want || e != api.OK {
		t.Fatalf("Graphs(%v): %q, %d; want %q", graphs, s, e, want)
	}
	var normals []arena.Graph
	for _, g := range graphs {
		normals = append(normals, arena.Normal(g))
	}
	back, _ := parse.Text(s)
	if got, e := compose.Graphs(back); e != api.OK || !slices.EqualFunc(got, normals, alike) {
		t.Fatalf("Graphs(%v), and back: %v, %d; want %v", graphs, got, e, normals)
	}
	if again, e := emit.Graphs(normals); again != s || e != api.OK {
		t.Fatalf("Graphs(%v): %q, %d; want %q", normals, again, e, s)
	}
	return s
}

// allLists calls see with each list of at most so many numbers, from 0 to greatest.
func allLists(greatest, most int, see func(l []int)) {
	var grow func(l []int)
	grow = func(l []int) {
		see(l)
		if len(l) < most {
			for n := range greatest + 1 {
				grow(append(slices.Clip(l), n))
			}
		}
	}
	grow(nil)
}

// allGraphs calls see with each graph of so many nodes, of lists and maps of at most so many kids, and of these scalars.
func allGraphs(size, most int, scalars []arena.Node, see func(g arena.Graph)) {
	nodes := slices.Clone(scalars)
	allLists(size-1, most, func(kids []int) {
		nodes = append(nodes, seqNode(kids...))
		if len(kids)%2 == 0 {
			nodes = append(nodes, tagged(mapNode(kids...), "!m"))
		}
	})
	g := make(arena.Graph, size)
	var put func(at int)
	put = func(at int) {
		if at == size {
			see(g)
			return
		}
		for _, n := range nodes {
			g[at] = n
			put(at + 1)
		}
	}
	put(0)
}

// P11.3, P11.4: all graphs of a few nodes come back; those that are the Same have the same text, and no others.
func TestGraphsOfAllSmallGraphs(t *testing.T) {
	texts, prints := map[string]string{}, map[string]string{} // by one another
	rights := 0
	for size, most := range map[int]int{1: 4, 2: 4, 3: 2, 4: 1} {
		allGraphs(size, most, []arena.Node{strNode("a"), strNode("5")}, func(g arena.Graph) {
			if !arena.Right(g) {
				if s, e := emit.Graphs([]arena.Graph{g}); s != "" || e != api.ErrForm {
					t.Fatalf("Graphs(%v): %q, %d", g, s, e)
				}
				return
			}
			rights++
			s, print := comesBack(t, g), arena.Print(g)
			if other, known := texts[print]; known && other != s {
				t.Fatalf("Graphs(%v): %q; the same graph had %q", g, s, other)
			}
			if other, known := prints[s]; known && other != print {
				t.Fatalf("Graphs(%v): %q, as another graph had: %q", g, s, other)
			}
			texts[print], prints[s] = s, print
		})
	}
	if rights < 5000 || len(texts) < 500 {
		t.Errorf("just %d of them are right, and %d texts there are", rights, len(texts))
	}
}

// grownGraph: a graph of so many nodes, by chance; some may be met by none.
func grownGraph(r *rand.Rand, size, kids int) arena.Graph {
	g := make(arena.Graph, size)
	for at := range g {
		switch kind := r.Intn(3); {
		case kind == arena.Scalar && at > 0:
			s := []string{"", "a", "5", "~", "a: b", "\n", "# "}[r.Intn(7)]
			g[at] = tagged(strNode(s+fmt.Sprint(r.Intn(size))), []string{"str", "str", "!own"}[r.Intn(3)])
		case kind == arena.Map && at > 0:
			g[at] = tagged(mapNode(), []string{"map", "!own"}[r.Intn(2)])
		default:
			g[at] = tagged(seqNode(), []string{"seq", "!own"}[r.Intn(2)])
		}
	}
	for at := range g {
		for range r.Intn(kids) {
			key, kid := r.Intn(size), r.Intn(size)
			if g[at].Kind == arena.Seq {
				g[at].Kids = append(g[at].Kids, kid)
			}
			if g[at].Kind == arena.Map && g[key].Kind == arena.Scalar {
				g[at].Kids = append(g[at].Kids, key, kid)
				if arena.Twice(g) {
					g[at].Kids = g[at].Kids[:len(g[at].Kids)-2]
				}
			}
		}
	}
	return g
}

// shuffled: the same graph, its nodes numbered by chance, and some more that nobody meets.
func shuffled(r *rand.Rand, g arena.Graph) arena.Graph {
	places := r.Perm(len(g) + 3)
	root := slices.Index(places, 0)
	places[root], places[0] = places[0], 0
	out := slices.Repeat(arena.Graph{seqNode(0, 0)}, len(places))
	for at, n := range g {
		kids := make([]int, len(n.Kids))
		for i, kid := range n.Kids {
			kids[i] = places[kid]
		}
		n.Kids = kids
		out[places[at]] = n
	}
	return out
}

// P11.3, P11.4: greater graphs, made by chance that is always the same one, and the same ones in other numbers.
func TestGraphsOfGreatGraphs(t *testing.T) {
	r := rand.New(rand.NewSource(12))
	written := 0
	for range 1500 {
		a, b := grownGraph(r, 1+r.Intn(25), 5), grownGraph(r, 1+r.Intn(200), 2+r.Intn(14))
		if max(flatten.Deep(a), flatten.Deep(b)) > api.MaxDepth {
			if s, e := emit.Graphs([]arena.Graph{a, b}); s != "" || e != api.ErrDeep {
				t.Fatalf("Graphs(%v, %v): %q, %d", a, b, s, e)
			}
			continue
		}
		written++
		s := comesBack(t, a, b)
		c, d := shuffled(r, a), shuffled(r, b)
		if !arena.Same(a, c) || !arena.Same(b, d) {
			t.Fatal("what is shuffled is not the same")
		}
		if other := comesBack(t, c, d); other != s {
			t.Fatalf("%q, and, of the same graphs, %q", s, other)
		}
	}
	if written < 700 {
		t.Errorf("just %d are not too deep", written)
	}
}

// P11.3, R1: as many nodes as there may be, and many graphs.
func TestGraphsOfMost(t *testing.T) {
	flat := arena.Graph{seqNode()}
	for at := 1; at < api.MaxNodes; at++ {
		flat[0].Kids = append(flat[0].Kids, at, at)
		flat = append(flat, seqNode(0))
	}
	if s := comesBack(t, flat, flat); strings.Count(s, "\n") != 2*(2+3*(api.MaxNodes-1)) {
		t.Errorf("%d lines", strings.Count(s, "\n"))
	}
	s, e := emit.Graphs(slices.Repeat([]arena.Graph{{strNode("a")}}, 5000))
	if e != api.OK || s != strings.Repeat("---\na\n", 5000) {
		t.Errorf("of 5000: %d bytes, %d", len(s), e)
	}
}

// R5: what is handed in is not changed.
func TestGraphsChangesNothing(t *testing.T) {
	fresh := func() []arena.Graph {
		return []arena.Graph{{seqNode(2, 1, 2), tagged(seqNode(2, 0), "!a"), strNode("a"), seqNode(3)}, {mapNode(1, 1), strNode("a")}}
	}
	l := fresh()
	emit.Graphs(l)
	if !reflect.DeepEqual(l, fresh()) {
		t.Errorf("it was changed: %v", l)
	}
}
