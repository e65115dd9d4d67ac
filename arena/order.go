package arena

import "slices"

// Order: nodes as they are met first.
func Order(g Graph) []int {
	if !Right(g) {
		return nil
	}
	var met []int
	seen := make([]bool, len(g))
	var meet func(at int)
	meet = func(at int) {
		if seen[at] {
			return
		}
		seen[at] = true // ahead of its kids, since it may be one of them
		met = append(met, at)
		for _, kid := range g[at].Kids {
			meet(kid)
		}
	}
	meet(0)
	return met
}

// Normal: a graph whose nodes are numbered as they are met first.
func Normal(g Graph) Graph {
	met := Order(g)
	if len(met) == 0 {
		return nil
	}
	numbers := make([]int, len(g)) // by the old ones
	for number, at := range met {
		numbers[at] = number
	}
	var out Graph
	for _, at := range met {
		n := g[at]
		n.Kids = nil // its own, which the answer must not share
		for _, kid := range g[at].Kids {
			n.Kids = append(n.Kids, numbers[kid])
		}
		out = append(out, n)
	}
	return out
}

// Same: are two graphs the same, whatever their numbers?
func Same(a, b Graph) bool {
	return Right(a) && slices.EqualFunc(Normal(a), Normal(b), alike) // where just b is wrong, it has no nodes, and a has one
}

func alike(a, b Node) bool {
	return a.Kind == b.Kind && a.Tag == b.Tag && a.Text == b.Text && slices.Equal(a.Kids, b.Kids)
}

// Ins: of how many kids each node is met.
func Ins(g Graph) []int {
	if !Right(g) {
		return nil
	}
	counts := make([]int, len(g))
	for _, n := range g {
		for _, kid := range n.Kids {
			counts[kid]++
		}
	}
	return counts
}
