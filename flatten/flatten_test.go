package flatten_test

import (
	"fmt"
	"math/rand"
	"reflect"
	"slices"
	"strings"
	"testing"

	"grille/api"
	"grille/arena"
	"grille/compose"
	"grille/event"
	"grille/flatten"
	"grille/lex"
)

func str(s string) arena.Node {
	return arena.Node{Kind: arena.Scalar, Tag: "str", Text: s}
}

func seq(kids ...int) arena.Node {
	return arena.Node{Kind: arena.Seq, Tag: "seq", Kids: kids}
}

func mapp(kids ...int) arena.Node {
	return arena.Node{Kind: arena.Map, Tag: "map", Kids: kids}
}

func withTag(n arena.Node, t string) arena.Node {
	n.Tag = t
	return n
}

// chain: so many lists, one in the other, and in the last one what is given (its kids are numbers behind the lists).
func chain(deep int, last ...arena.Node) arena.Graph {
	var g arena.Graph
	for at := range deep {
		g = append(g, seq(at+1))
	}
	if len(last) == 0 {
		g[deep-1].Kids = nil
	}
	return append(g, last...)
}

// doc: the printed events of one document, some to a line.
func doc(lines ...string) string {
	return "+doc\n" + strings.ReplaceAll(strings.Join(lines, " | "), " | ", "\n") + "\n-doc\n"
}

// P10.3, P10.2: graphs, their events, and how deep they are.
func TestEvents(t *testing.T) {
	for i, c := range []struct {
		g    arena.Graph
		want string
		deep int
	}{
		{arena.Graph{str("a")}, doc("=val :\"a\""), 0},
		{arena.Graph{withTag(str("5"), "!own")}, doc("=val !own \"5\""), 0},
		{arena.Graph{seq()}, doc("+seq | -seq"), 1},
		{arena.Graph{withTag(mapp(), "!own")}, doc("+map !own | -map"), 1},
		{arena.Graph{seq(2, 1, 3), str("a"), str("b"), str("a")}, doc("+seq | =val :\"b\" | =val :\"a\" | =val :\"a\" | -seq"), 1}, // what is alike is not one
		{arena.Graph{mapp(3, 1, 2, 4), str("a"), str("b"), str("c"), seq(5), mapp()}, doc("+map | =val :\"c\" | =val :\"a\" | =val :\"b\" | +seq | +map | -map | -seq | -map"), 3},
		{arena.Graph{seq(1, 2), seq(3), seq(4, 5), str("a"), seq(), str("b")}, doc("+seq | +seq | =val :\"a\" | -seq | +seq | +seq | -seq | =val :\"b\" | -seq | -seq"), 3},
		// the root is met once more than it is a kid
		{arena.Graph{seq(0)}, doc("+seq &a1 | =ali *a1 | -seq"), 1},
		{arena.Graph{seq(0, 0, 0)}, doc("+seq &a1 | =ali *a1 | =ali *a1 | =ali *a1 | -seq"), 1},
		{arena.Graph{mapp(1, 0), str("a")}, doc("+map &a1 | =val :\"a\" | =ali *a1 | -map"), 1},
		{arena.Graph{seq(1), seq(0)}, doc("+seq &a1 | +seq | =ali *a1 | -seq | -seq"), 2},
		{arena.Graph{seq(1), seq(1)}, doc("+seq | +seq &a1 | =ali *a1 | -seq | -seq"), 2},
		{arena.Graph{seq(1), seq(0, 1)}, doc("+seq &a1 | +seq &a2 | =ali *a1 | =ali *a2 | -seq | -seq"), 2},
		// names by the order in which nodes are met first, whatever their numbers, and where they are met again
		{arena.Graph{seq(2, 1, 1, 2), str("a"), str("b")}, doc("+seq | =val &a1 :\"b\" | =val &a2 :\"a\" | =ali *a2 | =ali *a1 | -seq"), 1},
		{arena.Graph{seq(3, 2, 1, 1, 3), str("a"), str("b"), str("c")}, doc("+seq | =val &a1 :\"c\" | =val :\"b\" | =val &a2 :\"a\" | =ali *a2 | =ali *a1 | -seq"), 1},
		{arena.Graph{seq(1, 2, 1), seq(2), str("5")}, doc("+seq | +seq &a1 | =val &a2 \"5\" | -seq | =ali *a2 | =ali *a1 | -seq"), 2},
		{arena.Graph{seq(1), seq(2, 0), str("a")}, doc("+seq &a1 | +seq | =val :\"a\" | =ali *a1 | -seq | -seq"), 2},
		{arena.Graph{seq(1, 1), withTag(mapp(2, 3), "!m"), str("k"), withTag(str("~"), "null")}, doc("+seq | +map &a1 !m | =val :\"k\" | =val :\"~\" | -map | =ali *a1 | -seq"), 2},
		// keys
		{arena.Graph{mapp(1, 1), str("a")}, doc("+map | =val &a1 :\"a\" | =ali *a1 | -map"), 1},
		{arena.Graph{mapp(1, 2, 2, 3), str("a"), str("b"), str("c")}, doc("+map | =val :\"a\" | =val &a1 :\"b\" | =ali *a1 | =val :\"c\" | -map"), 1},
		// what is not met counts nothing, and its kids count nothing
		{arena.Graph{seq(1), str("a"), str("b")}, doc("+seq | =val :\"a\" | -seq"), 1},
		{arena.Graph{seq(1), str("a"), seq(1, 1, 0, 2)}, doc("+seq | =val :\"a\" | -seq"), 1},
		{arena.Graph{str("a"), seq(0, 0), mapp(0, 1)}, doc("=val :\"a\""), 0},
		{arena.Graph{str("a"), seq(2), seq(3), seq()}, doc("=val :\"a\""), 0},
		{arena.Graph{seq(2, 2), seq(3, 2), str("b"), str("c")}, doc("+seq | =val &a1 :\"b\" | =ali *a1 | -seq"), 1},
		// a node stands where it is met first, even if it is met deeper later, or less deep
		{arena.Graph{seq(1, 2), seq(3), seq(1), seq()}, doc("+seq | +seq &a1 | +seq | -seq | -seq | +seq | =ali *a1 | -seq | -seq"), 3},
		{arena.Graph{seq(2, 1), seq(3), seq(1), seq()}, doc("+seq | +seq | +seq &a1 | +seq | -seq | -seq | -seq | =ali *a1 | -seq"), 4},
	} {
		l, e := flatten.Events([]arena.Graph{c.g})
		if s := event.Print(l); e != api.OK || s != c.want {
			t.Errorf("number %d: Events: %d, %s; want %s", i, e, s, c.want)
		}
		if deep := flatten.Deep(c.g); deep != c.deep {
			t.Errorf("number %d: Deep: %d; want %d", i, deep, c.deep)
		}
		holds(t, c.g)
	}
}

// P10.3: documents, one behind the other, with names of their own; and none.
func TestEventsOfMany(t *testing.T) {
	own, pair := arena.Graph{seq(0)}, arena.Graph{seq(1, 1, 0), str("a")}
	l, e := flatten.Events([]arena.Graph{pair, {str("a")}, own, pair})
	names := doc("+seq &a1 | =val &a2 :\"a\" | =ali *a2 | =ali *a1 | -seq")
	if s := event.Print(l); e != api.OK || s != names+doc("=val :\"a\"")+doc("+seq &a1 | =ali *a1 | -seq")+names {
		t.Errorf("%d, %s", e, s)
	}
	for _, none := range [][]arena.Graph{nil, {}} {
		if l, e := flatten.Events(none); len(l) != 0 || e != api.OK {
			t.Errorf("of none: %v, %d", l, e)
		}
	}
	l, e = flatten.Events(slices.Repeat([]arena.Graph{{str("a")}}, 3000))
	if e != api.OK || len(l) != 9000 {
		t.Errorf("of 3000: %d events, %d", len(l), e)
	}
}

// P10.2, P10.3: what is wrong, and what is too deep; ErrForm is ahead of ErrDeep, wherever they stand.
func TestEventsOfWrong(t *testing.T) {
	fine, deep := arena.Graph{str("a")}, chain(41)
	for i, g := range []arena.Graph{
		nil, {}, {{Kind: 3}}, {{Kind: -1}}, {{}}, {str("\xff")}, {seq(1)}, {seq(-1)}, {seq(1 << 62)}, {withTag(seq(), "map")}, {withTag(mapp(), "seq")},
		{mapp(1), str("a")}, {mapp(0, 0)}, {mapp(1, 1, 1, 1), str("a")}, {mapp(1, 0, 2, 0), str("a"), str("a")}, {withTag(str("a"), "int")},
		{str("a"), {Kind: 3}}, {str("a"), seq(2)}, // nobody meets what is wrong
		chain(41, arena.Node{Kind: 3}), slices.Repeat(arena.Graph{seq()}, 2001), chain(2001),
	} {
		if n := flatten.Deep(g); n != 0 {
			t.Errorf("number %d: Deep: %d", i, n)
		}
		for k, l := range [][]arena.Graph{{g}, {fine, g}, {g, fine}, {deep, g}, {g, deep}, {g, g}, {fine, deep, fine, g}} {
			if v, e := flatten.Events(l); len(v) != 0 || e != api.ErrForm {
				t.Errorf("number %d, place %d: %d events, %d", i, k, len(v), e)
			}
		}
	}
	for k, l := range [][]arena.Graph{{deep}, {fine, deep}, {deep, fine}, {deep, deep}, {chain(40), deep}, {chain(2000)}} {
		if v, e := flatten.Events(l); len(v) != 0 || e != api.ErrDeep {
			t.Errorf("place %d: %d events, %d", k, len(v), e)
		}
	}
}

// P10.2, P10.3: how deep a graph may be, of lists and of maps, with a text, or with one met again, in the last one.
func TestEventsOfDeep(t *testing.T) {
	for n := 1; n <= 60; n++ {
		maps := arena.Graph{mapp(1, 2), str("k")} // all of them have that key
		for range n - 1 {
			maps = append(maps, mapp(1, len(maps)+1))
		}
		maps = append(maps, str("x"))
		around := chain(n, seq()) // the deepest one, one behind that many
		around[n].Kids = []int{0, n, n - 1}
		for i, c := range []struct {
			g    arena.Graph
			deep int
		}{
			{chain(n), n}, {chain(n, str("a")), n}, {chain(n, mapp()), n + 1}, {maps, n}, {around, n + 1},
			{append(chain(n), seq(0), seq(n)), n}, // nobody meets those around it
			{append(arena.Graph{seq(n+1, 1)}, backward(n)...), n + 1},
		} {
			got := flatten.Deep(c.g)
			l, e := flatten.Events([]arena.Graph{c.g})
			if want := c.deep > 40; got != c.deep || want != (e == api.ErrDeep) || want != (len(l) == 0) || !want && (e != api.OK || event.Depth(l) != c.deep) {
				t.Fatalf("number %d of %d: Deep %d; want %d; %d events, %d", i, n, got, c.deep, len(l), e)
			}
		}
	}
}

func withKids(n arena.Node, kids ...int) arena.Node {
	n.Kids = kids
	return n
}

// backward: a text, and so many lists, each around the node ahead of it, numbered from 1 on.
func backward(n int) arena.Graph {
	g := arena.Graph{str("a")}
	for at := range n {
		g = append(g, seq(at+1))
	}
	return g
}

// flattened is P10.2 and P10.3, said again, of a right graph: what is still to be told stands on a pile, the next one on top.
func flattened(g arena.Graph) (l []event.Event, deep int) {
	order := arena.Order(g)
	names := map[int]string{}
	for _, at := range order {
		met := 0
		if at == 0 {
			met = 1
		}
		for _, by := range order {
			for _, kid := range g[by].Kids {
				if kid == at {
					met++
				}
			}
		}
		if met > 1 {
			names[at] = fmt.Sprintf("a%d", len(names)+1)
		}
	}
	type thing struct {
		at    int // a node, or -1
		end   event.Event
		depth int // lists and maps around it
	}
	known := map[int]bool{}
	pile := []thing{{at: 0}}
	for len(pile) > 0 {
		next := pile[len(pile)-1]
		pile = pile[:len(pile)-1]
		if next.at < 0 {
			l = append(l, next.end)
			continue
		}
		if known[next.at] {
			l = append(l, event.Event{Kind: event.Alias, Anchor: names[next.at]})
			continue
		}
		known[next.at] = true
		n := g[next.at]
		e := told(n)
		e.Anchor = names[next.at]
		l = append(l, e)
		if n.Kind == arena.Scalar {
			continue
		}
		deep = max(deep, next.depth+1)
		pile = append(pile, thing{at: -1, end: event.Event{Kind: e.Kind + 1}})
		for i := len(n.Kids) - 1; i >= 0; i-- {
			pile = append(pile, thing{at: n.Kids[i], depth: next.depth + 1})
		}
	}
	return slices.Concat([]event.Event{{Kind: event.Begin}}, l, []event.Event{{Kind: event.End}}), deep
}

// holds: is what is told of these right graphs what the promises say?
func holds(t *testing.T, graphs ...arena.Graph) api.Errno {
	t.Helper()
	var want []event.Event
	var normals []arena.Graph
	fault := api.OK
	for _, g := range graphs {
		l, deep := flattened(g)
		if got := flatten.Deep(g); got != deep {
			t.Fatalf("Deep(%v): %d; want %d", g, got, deep)
		}
		if deep > 40 {
			fault = api.ErrDeep
		}
		want = append(want, l...)
		normals = append(normals, arena.Normal(g))
	}
	got, e := flatten.Events(graphs)
	if fault != api.OK {
		want, normals = nil, nil
	}
	if e != fault || !slices.Equal(got, want) {
		t.Fatalf("Events(%v): %v, %d; want %v, %d", graphs, got, e, want, fault)
	}
	if !event.Right(got) {
		t.Fatalf("Events(%v): %v are not right", graphs, got)
	}
	back, e := compose.Graphs(got)
	if e != api.OK || !slices.EqualFunc(back, normals, alike) {
		t.Fatalf("Events(%v), and back: %v, %d; want %v", graphs, back, e, normals)
	}
	return fault
}

// alike: are two graphs the same, number by number?
func alike(a, b arena.Graph) bool {
	return slices.EqualFunc(a, b, func(m, n arena.Node) bool {
		return m.Kind == n.Kind && m.Tag == n.Tag && m.Text == n.Text && slices.Equal(m.Kids, n.Kids)
	})
}

// allLists calls see with each list of at most so many numbers, from 0 to greatest.
func allLists(greatest, most int, see func(l []int)) {
	var grow func(l []int)
	grow = func(l []int) {
		see(l)
		if len(l) < most {
			for n := range greatest + 1 {
				grow(append(slices.Clip(l), n))
			}
		}
	}
	grow(nil)
}

// allGraphs calls see with each graph of so many nodes, of lists and maps of at most so many kids, and of these scalars.
func allGraphs(size, most int, scalars []arena.Node, see func(g arena.Graph)) {
	nodes := slices.Clone(scalars)
	allLists(size-1, most, func(kids []int) {
		nodes = append(nodes, seq(kids...))
		if len(kids)%2 == 0 {
			nodes = append(nodes, withTag(mapp(kids...), "!m"))
		}
	})
	g := make(arena.Graph, size)
	var put func(at int)
	put = func(at int) {
		if at == size {
			see(g)
			return
		}
		for _, n := range nodes {
			g[at] = n
			put(at + 1)
		}
	}
	put(0)
}

// P10.2 to P10.4: all graphs of a few nodes, right and wrong.
func TestEventsOfAllSmallGraphs(t *testing.T) {
	rights := 0
	for size, most := range map[int]int{1: 6, 2: 4, 3: 2, 4: 1} {
		allGraphs(size, most, []arena.Node{str("a"), str("5")}, func(g arena.Graph) {
			if arena.Right(g) {
				rights++
				holds(t, g)
				return
			}
			if l, e := flatten.Events([]arena.Graph{g}); len(l) != 0 || e != api.ErrForm || flatten.Deep(g) != 0 {
				t.Fatalf("Events(%v): %v, %d; Deep %d", g, l, e, flatten.Deep(g))
			}
		})
	}
	if rights < 5000 {
		t.Errorf("just %d of them are right", rights)
	}
}

// P10.3, P10.4: every two graphs of a few nodes, one behind the other.
func TestEventsOfAllPairs(t *testing.T) {
	var l []arena.Graph
	for size, most := range map[int]int{1: 2, 2: 2} {
		allGraphs(size, most, []arena.Node{str("a"), {Tag: "null"}}, func(g arena.Graph) {
			if arena.Right(g) {
				l = append(l, slices.Clone(g))
			}
		})
	}
	l = append(l, chain(40), chain(41))
	for _, a := range l {
		for _, b := range l {
			holds(t, a, b)
		}
	}
	holds(t, l[:len(l)-1]...)
}

// grown: a graph of so many nodes, by chance; some may be met by none.
func grown(chance *rand.Rand, size, kids int) arena.Graph {
	g := make(arena.Graph, size)
	for at := range g {
		switch kind := chance.Intn(3); {
		case kind == arena.Scalar && at > 0:
			s := []string{"", "a", "5", "~", "a: b"}[chance.Intn(5)]
			g[at] = withTag(str(s+fmt.Sprint(chance.Intn(size))), []string{"str", "str", "!own"}[chance.Intn(3)])
		case kind == arena.Map && at > 0:
			g[at] = withTag(mapp(), []string{"map", "!own"}[chance.Intn(2)])
		default:
			g[at] = withTag(seq(), []string{"seq", "!own"}[chance.Intn(2)])
		}
	}
	for at := range g {
		for range chance.Intn(kids) {
			key, kid := chance.Intn(size), chance.Intn(size)
			if g[at].Kind == arena.Seq {
				g[at].Kids = append(g[at].Kids, kid)
			}
			if g[at].Kind == arena.Map && g[key].Kind == arena.Scalar {
				g[at].Kids = append(g[at].Kids, key, kid)
				if arena.Twice(g) {
					g[at].Kids = g[at].Kids[:len(g[at].Kids)-2]
				}
			}
		}
	}
	return g
}

// P10.2 to P10.4: greater graphs, made by chance that is always the same one.
func TestEventsOfGreatGraphs(t *testing.T) {
	chance := rand.New(rand.NewSource(10))
	counts := map[api.Errno]int{}
	for range 1500 {
		a, b := grown(chance, 1+chance.Intn(25), 5), grown(chance, 1+chance.Intn(200), 2+chance.Intn(14))
		counts[holds(t, a)]++
		counts[holds(t, b, a)]++
	}
	if counts[api.OK] < 500 || counts[api.ErrDeep] < 20 {
		t.Errorf("the answers came %v times", counts)
	}
}

// P10.2 to P10.4, R1: as many nodes as there may be, one in the other, all in the first one, and all in all.
func TestEventsOfMost(t *testing.T) {
	const size = 2000
	ring, flat, all := make(arena.Graph, size), make(arena.Graph, size), make(arena.Graph, 35)
	for at := range size {
		ring[at], flat[at] = seq((at+size-1)%size), seq(0)
		flat[0].Kids = append(flat[0].Kids, size-1-at)
	}
	for at := range all {
		all[at] = seq()
		for kid := range all {
			all[at].Kids = append(all[at].Kids, len(all)-1-kid)
		}
	}
	if n := flatten.Deep(ring); n != size {
		t.Errorf("Deep of a ring: %d", n)
	}
	if holds(t, ring) != api.ErrDeep || holds(t, flat) != api.OK || holds(t, all) != api.OK {
		t.Error("too deep, or not")
	}
	var named []int
	for at := range size - 1 {
		named = append(named, at+1, at+1)
	}
	names := arena.Graph{withKids(seq(), named...)}
	for range size - 1 {
		names = append(names, str("a"))
	}
	l, e := flatten.Events([]arena.Graph{names})
	if e != api.OK || len(l) != 2*size+2 || l[2*size-1].Anchor != "a1999" || l[2*size-2].Anchor != "a1999" || !lex.Name("a1999") {
		t.Errorf("the last name: %d events, %d", len(l), e)
	}
	holds(t, names)
}

// R4, R5: what is handed in is not changed, and may be changed after; no two answers share anything.
func TestEventsShareNothing(t *testing.T) {
	fresh := func() []arena.Graph {
		return []arena.Graph{{seq(2, 1, 2), withTag(seq(2, 0), "!a"), str("a"), seq(3)}, {mapp(1, 1), str("a")}}
	}
	l := fresh()
	first, _ := flatten.Events(l)
	flatten.Deep(l[0])
	flatten.Event(l[0][0])
	if !reflect.DeepEqual(l, fresh()) {
		t.Fatalf("what was handed in was changed: %v", l)
	}
	want := slices.Clone(first)
	for _, g := range l {
		for at := range g {
			for i := range g[at].Kids {
				g[at].Kids[i] = 3
			}
			g[at] = arena.Node{Kind: 7}
		}
	}
	if !slices.Equal(first, want) {
		t.Fatalf("the answer was changed: %v", first)
	}
	second, _ := flatten.Events(fresh())
	whole := first[:cap(first)]
	for i := range whole {
		whole[i] = event.Event{}
	}
	if !slices.Equal(second, want) {
		t.Fatalf("two answers share: %v; want %v", second, want)
	}
}
