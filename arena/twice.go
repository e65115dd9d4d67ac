package arena

// face is all that two keys have to share to be alike: Scalars their tag and their text, others, that may stand as keys in wrong graphs, their number.
type face struct {
	scalar    bool
	tag, text string
	number    int
}

func faceOf(g Graph, at int) face {
	if n := g[at]; n.Kind == Scalar {
		return face{scalar: true, tag: n.Tag, text: n.Text}
	}
	return face{number: at}
}

// Twice: has a map two keys alike?
func Twice(g Graph) bool {
	for _, n := range g {
		if n.Kind == Map && keyTwice(g, n.Kids) {
			return true
		}
	}
	return false
}

func keyTwice(g Graph, kids []int) bool {
	seen := map[face]struct{}{}
	for at := 0; at < len(kids); at += 2 {
		if !isNode(g, kids[at]) {
			continue
		}
		key := faceOf(g, kids[at])
		if _, ok := seen[key]; ok {
			return true
		}
		seen[key] = struct{}{}
	}
	return false
}
