package arena_test

import (
	"fmt"
	"math/rand"
	"reflect"
	"slices"
	"strings"
	"testing"

	"grille/arena"
	"grille/scalar"
	"grille/tag"
)

// order is P8.3's Order, said again: what is still to be met stands on a pile, the next one on top.
func order(g arena.Graph) []int {
	var met []int
	pile := []int{0}
	for len(pile) > 0 {
		at := pile[len(pile)-1]
		pile = pile[:len(pile)-1]
		if slices.Contains(met, at) {
			continue
		}
		met = append(met, at)
		kids := slices.Clone(g[at].Kids)
		slices.Reverse(kids)
		pile = append(pile, kids...)
	}
	return met
}

// normal is P8.3's Normal, said again.
func normal(g arena.Graph) arena.Graph {
	l := order(g)
	var out arena.Graph
	for _, at := range l {
		n := arena.Node{Kind: g[at].Kind, Tag: g[at].Tag, Text: g[at].Text}
		for _, kid := range g[at].Kids {
			n.Kids = append(n.Kids, slices.Index(l, kid))
		}
		out = append(out, n)
	}
	return out
}

// ins is P8.4's Ins, said again.
func ins(g arena.Graph) []int {
	var out []int
	for at := range g {
		count := 0
		for _, n := range g {
			for _, kid := range n.Kids {
				if kid == at {
					count++
				}
			}
		}
		out = append(out, count)
	}
	return out
}

// same tells whether the nodes of two right graphs go together, one by one, from the roots on: Same without any numbering.
func same(a, b arena.Graph) bool {
	there, back := map[int]int{}, map[int]int{}
	var together func(i, j int) bool
	together = func(i, j int) bool {
		to, ok := there[i]
		from, known := back[j]
		if ok || known {
			return ok && known && to == j && from == i
		}
		there[i], back[j] = j, i
		m, n := a[i], b[j]
		if m.Kind != n.Kind || m.Tag != n.Tag || m.Text != n.Text || len(m.Kids) != len(n.Kids) {
			return false
		}
		for k := range m.Kids {
			if !together(m.Kids[k], n.Kids[k]) {
				return false
			}
		}
		return true
	}
	return together(0, 0)
}

// printed is P8.5, said again.
func printed(g arena.Graph) string {
	var out strings.Builder
	for number, n := range normal(g) {
		fmt.Fprintf(&out, "%d %s %s", number, []string{"=", "[", "{"}[n.Kind], tag.Word(n.Tag))
		if n.Kind == 0 {
			fmt.Fprintf(&out, " %s", scalar.Quote(n.Text))
		}
		for _, kid := range n.Kids {
			fmt.Fprintf(&out, " %d", kid)
		}
		fmt.Fprintln(&out)
	}
	return out.String()
}

// shuffled: the same graph, its nodes but the root numbered in another way, and some more that nobody meets.
func shuffled(g arena.Graph, chance *rand.Rand, more int) arena.Graph {
	places := append([]int{0}, chance.Perm(len(g)+more-1)...)
	out := make(arena.Graph, len(g)+more)
	for at := range out {
		out[at] = seq(chance.Intn(len(out)), 0)
	}
	for at, n := range g {
		n.Kids = slices.Clone(n.Kids)
		for i := range n.Kids {
			n.Kids[i] = place(places, n.Kids[i])
		}
		out[place(places, at)] = n
	}
	return out
}

func place(places []int, at int) int {
	if at == 0 {
		return 0
	}
	return places[at] + 1
}

// grown: a graph of so many nodes, by chance; some may be met by none.
func grown(chance *rand.Rand, size int) arena.Graph {
	g := make(arena.Graph, size)
	for at := range g {
		switch kind := chance.Intn(3); {
		case kind == arena.Scalar:
			g[at] = str(fmt.Sprint(chance.Intn(size)))
		case kind == arena.Map && at > 0:
			g[at] = withTag(mapp(), []string{"map", "!own"}[chance.Intn(2)])
		default:
			g[at] = withTag(seq(), []string{"seq", "!own"}[chance.Intn(2)])
		}
	}
	for at := range g {
		for range chance.Intn(5) {
			key, kid := chance.Intn(size), chance.Intn(size)
			if g[at].Kind == arena.Seq {
				g[at].Kids = append(g[at].Kids, kid)
			}
			if g[at].Kind == arena.Map && g[key].Kind == arena.Scalar && !slices.ContainsFunc(g[at].Kids, func(k int) bool { return g[k].Text == g[key].Text && g[k].Kind == arena.Scalar }) {
				g[at].Kids = append(g[at].Kids, key, kid)
			}
		}
	}
	return g
}

// held holds all answers for a right graph against the promises.
func held(t *testing.T, g arena.Graph) {
	t.Helper()
	n, s := arena.Normal(g), arena.Print(g)
	switch {
	case !arena.Right(g):
		t.Fatalf("not Right: %v", g)
	case !slices.Equal(arena.Order(g), order(g)):
		t.Fatalf("Order(%v): %v; want %v", g, arena.Order(g), order(g))
	case !reflect.DeepEqual(bare(n), bare(normal(g))):
		t.Fatalf("Normal(%v): %v; want %v", g, n, normal(g))
	case !slices.Equal(arena.Ins(g), ins(g)):
		t.Fatalf("Ins(%v): %v; want %v", g, arena.Ins(g), ins(g))
	case s != printed(g):
		t.Fatalf("Print(%v): %s; want %s", g, s, printed(g))
	case !arena.Same(g, g) || !arena.Same(g, n) || !arena.Same(n, g):
		t.Fatalf("not the same as itself: %v", g)
	case !arena.Right(n) || !reflect.DeepEqual(bare(arena.Normal(n)), bare(n)) || arena.Print(n) != s:
		t.Fatalf("Normal of Normal(%v): %v", g, arena.Normal(n))
	}
}

// bare: a graph in which lists without elements are nil (R6).
func bare(g arena.Graph) arena.Graph {
	g = slices.Clone(g)
	for at := range g {
		if len(g[at].Kids) == 0 {
			g[at].Kids = nil
		}
	}
	return g
}

// P8.3, P8.4, P8.5: graphs, and all that is told of them.
func TestAnswers(t *testing.T) {
	for _, see := range []struct {
		g          arena.Graph
		order, ins []int
		all        string
	}{
		{arena.Graph{str("a\n\"")}, []int{0}, []int{0}, "0 = !!str \"a\\n\\\"\"\n"},
		{arena.Graph{withTag(str("5"), "!own-1")}, []int{0}, []int{0}, "0 = !own-1 \"5\"\n"},
		{arena.Graph{seq()}, []int{0}, []int{0}, "0 [ !!seq\n"},
		{arena.Graph{withTag(mapp(), "!m")}, []int{0}, []int{0}, "0 { !m\n"},
		{arena.Graph{seq(0, 0)}, []int{0}, []int{2}, "0 [ !!seq 0 0\n"},
		{arena.Graph{mapp(1, 0), str("a")}, []int{0, 1}, []int{1, 1}, "0 { !!map 1 0\n1 = !!str \"a\"\n"},
		{arena.Graph{mapp(1, 1), str("a")}, []int{0, 1}, []int{0, 2}, "0 { !!map 1 1\n1 = !!str \"a\"\n"},
		{arena.Graph{seq(2, 1), str("a"), str("b")}, []int{0, 2, 1}, []int{0, 1, 1}, "0 [ !!seq 1 2\n1 = !!str \"b\"\n2 = !!str \"a\"\n"},
		{arena.Graph{seq(1), str("a"), seq(1, 0, 2)}, []int{0, 1}, []int{1, 2, 1}, "0 [ !!seq 1\n1 = !!str \"a\"\n"}, // nobody meets the last one, but it has Kids
		{arena.Graph{seq(3, 1), seq(2), str("a"), seq(2, 1)}, []int{0, 3, 2, 1}, []int{0, 2, 2, 1}, "0 [ !!seq 1 3\n1 [ !!seq 2 3\n2 = !!str \"a\"\n3 [ !!seq 2\n"},
		{arena.Graph{seq(1, 2), seq(2, 3), str("a"), str("b")}, []int{0, 1, 2, 3}, []int{0, 1, 2, 1}, "0 [ !!seq 1 2\n1 [ !!seq 2 3\n2 = !!str \"a\"\n3 = !!str \"b\"\n"},
		{arena.Graph{mapp(4, 2, 3, 1), seq(0), {Tag: "null", Text: "~"}, {Tag: "float", Text: "1"}, {Tag: "bool", Text: "true"}}, []int{0, 4, 2, 3, 1}, []int{1, 1, 1, 1, 1}, "0 { !!map 1 2 3 4\n1 = !!bool \"true\"\n2 = !!null \"~\"\n3 = !!float \"1\"\n4 [ !!seq 0\n"},
	} {
		held(t, see.g)
		if l := arena.Order(see.g); !slices.Equal(l, see.order) {
			t.Errorf("Order(%v): %v; want %v", see.g, l, see.order)
		}
		if l := arena.Ins(see.g); !slices.Equal(l, see.ins) {
			t.Errorf("Ins(%v): %v; want %v", see.g, l, see.ins)
		}
		if s := arena.Print(see.g); s != see.all {
			t.Errorf("Print(%v): %q; want %q", see.g, s, see.all)
		}
	}
}

// somes: nodes of which small graphs are made.
func somes(greatest, most int) []arena.Node {
	l := []arena.Node{str("a"), str(""), {Tag: "null"}}
	allLists(0, greatest, most, func(kids []int) {
		l = append(l, seq(kids...), mapp(kids...), withTag(mapp(kids...), "!m"))
	})
	return l
}

// P8.3 to P8.6: all right graphs of at most three nodes.
func TestAllSmallAnswers(t *testing.T) {
	for size, most := range map[int]int{1: 6, 2: 4, 3: 2} {
		rights := 0
		allGraphs(somes(size-1, most), size, func(g arena.Graph) {
			if right(g) {
				held(t, g)
				rights++
			}
		})
		if rights < 10 {
			t.Errorf("just %d graphs of %d nodes", rights, size)
		}
	}
}

// P8.4, P8.6: every two right graphs of a few nodes: they are the same if their nodes go together, and just if they print alike.
func TestSameOfAllPairs(t *testing.T) {
	var l []arena.Graph
	var prints []string
	for size, most := range []int{1: 3, 2: 2, 3: 1} {
		if size == 0 {
			continue
		}
		allGraphs(somes(size-1, most), size, func(g arena.Graph) {
			if right(g) {
				l = append(l, slices.Clone(g))
				prints = append(prints, arena.Print(g))
			}
		})
	}
	sames := 0
	for i, a := range l {
		for j, b := range l {
			want := same(a, b)
			if arena.Same(a, b) != want || (prints[i] == prints[j]) != want {
				t.Fatalf("Same(%v, %v): %t; they print\n%s%s", a, b, !want, prints[i], prints[j])
			}
			if want {
				sames++
			}
		}
	}
	if sames <= len(l) || sames == len(l)*len(l) {
		t.Errorf("%d pairs of %d graphs are the same", sames, len(l))
	}
}

// P8.4: each thing in which nodes may differ, at the root and elsewhere.
func TestSameButForOne(t *testing.T) {
	base := arena.Graph{seq(1, 2, 3), withTag(seq(1, 2), "!a"), withTag(str("5"), "!a"), mapp(2, 1), str("nobody's")}
	for i, turn := range []func(g arena.Graph){
		func(g arena.Graph) { g[0].Tag = "!b" },
		func(g arena.Graph) { g[0].Kids = []int{1, 2} },
		func(g arena.Graph) { g[0].Kids = []int{1, 2, 3, 3} },
		func(g arena.Graph) { g[0].Kids = []int{1, 3, 2} },
		func(g arena.Graph) { g[1].Tag = "seq" },
		func(g arena.Graph) { g[1].Kind, g[1].Kids = arena.Map, []int{2, 1} },
		func(g arena.Graph) { g[1].Kind, g[1].Kids = arena.Scalar, nil },
		func(g arena.Graph) { g[1].Kids = []int{0, 2} },
		func(g arena.Graph) { g[1].Kids = []int{1, 4} },
		func(g arena.Graph) { g[2].Tag = "int" },
		func(g arena.Graph) { g[2].Text = "6" },
		func(g arena.Graph) { g[2].Text = "" },
		func(g arena.Graph) { g[2].Kind, g[2].Text, g[3].Kids = arena.Seq, "", nil },
		func(g arena.Graph) { g[3].Kids = nil },
		func(g arena.Graph) { g[3].Kids = []int{2, 2} },
		func(g arena.Graph) { g[4] = withTag(str("5"), "!a"); g[3].Kids = []int{4, 1} }, // a node with all the same, but another one
	} {
		g := slices.Clone(base)
		turn(g)
		if !arena.Right(g) || arena.Same(g, base) || arena.Same(base, g) || arena.Print(g) == arena.Print(base) {
			t.Errorf("number %d is the same: %v", i, g)
		}
	}
	g := slices.Clone(base)
	g[4] = str("of somebody else")
	if !arena.Same(append(g, seq(0)), base) || !arena.Same(base, g[:4]) {
		t.Error("what is not met counts")
	}
	g[4].Text = "\xff"
	if arena.Same(g, base) || arena.Same(base, g) {
		t.Error("one that is not Right is the same")
	}
}

// P8.3 to P8.6: greater graphs, made by chance that is always the same one, and numbered in other ways.
func TestGrownGraphs(t *testing.T) {
	chance := rand.New(rand.NewSource(8))
	for range 3000 {
		g := grown(chance, 1+chance.Intn(20))
		held(t, g)
		other := shuffled(g, chance, chance.Intn(5))
		held(t, other)
		if !arena.Same(g, other) || arena.Print(g) != arena.Print(other) {
			t.Fatalf("not the same: %v, %v", g, other)
		}
		third := grown(chance, len(g))
		if want := same(g, third); arena.Same(g, third) != want || (arena.Print(g) == arena.Print(third)) != want {
			t.Fatalf("Same(%v, %v): %t", g, third, !want)
		}
	}
}

// P8.3, P8.4, R1: as many nodes as may be, one in the other, all in the last one, and the last one first.
func TestLongGraphs(t *testing.T) {
	const size = 2000
	deep, back, all := make(arena.Graph, size), make(arena.Graph, size), make(arena.Graph, size)
	for at := range size {
		deep[at], back[at], all[at] = seq((at+1)%size), seq((at+size-1)%size), seq()
		for kid := range size {
			all[at].Kids = append(all[at].Kids, size-1-kid)
		}
	}
	held(t, deep)
	held(t, back)
	if l := arena.Order(back); l[1] != size-1 || l[size-1] != 1 || !arena.Same(deep, back) {
		t.Errorf("the last one first: %v", l)
	}
	if l := arena.Order(all); l[0] != 0 || l[1] != size-1 || l[2] != size-2 || l[size-1] != 1 {
		t.Errorf("all in all: %v", l)
	}
	if l := arena.Ins(all); slices.Min(l) != size || slices.Max(l) != size {
		t.Errorf("Ins of all in all: %v", l)
	}
}

// P8.3, R5: what is handed in is not changed, and may be changed after: no answer shares anything.
func TestSharesNothing(t *testing.T) {
	fresh := func() arena.Graph {
		return arena.Graph{seq(1, 2, 0), withTag(seq(2, 2), "!a"), str("a"), mapp(2, 1)}
	}
	g := fresh()
	l, n, counts := arena.Order(g), arena.Normal(g), arena.Ins(g)
	arena.Right(g)
	arena.Twice(g)
	arena.Print(g)
	arena.Same(g, n)
	if !reflect.DeepEqual(g, fresh()) {
		t.Fatalf("changed: %v", g)
	}
	for at := range g {
		g[at].Text = "b"
		for i := range g[at].Kids {
			g[at].Kids[i] = 3
		}
	}
	if !slices.Equal(l, []int{0, 1, 2}) || !slices.Equal(counts, []int{1, 2, 4, 0}) || !reflect.DeepEqual(bare(n), bare(fresh()[:3])) {
		t.Errorf("the answers hang on what was changed after: %v, %v, %v", l, n, counts)
	}
	for at := range n {
		kids := n[at].Kids
		for i := range kids[:cap(kids)] {
			kids[:cap(kids)][i] = 7
		}
		for other := range n {
			if other > at && slices.Contains(n[other].Kids, 7) {
				t.Errorf("Kids of %d and %d are shared", at, other)
			}
		}
	}
}
