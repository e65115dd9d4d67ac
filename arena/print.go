package arena

import (
	"strconv"

	"grille/scalar"
	"grille/tag"
)

// Print: a graph as a text, a line each node.
func Print(g Graph) string {
	var out []byte
	for number, n := range Normal(g) {
		out = appendLine(out, number, n)
	}
	return string(out)
}

func appendLine(out []byte, number int, n Node) []byte {
	out = strconv.AppendInt(out, int64(number), 10)
	out = append(out, ' ', "=[{"[n.Kind], ' ') // only right graphs are printed, whose kinds are these three
	out = append(out, tag.Word(n.Tag)...)
	if n.Kind == Scalar {
		out = append(out, ' ')
		out = append(out, scalar.Quote(n.Text)...)
	}
	for _, kid := range n.Kids {
		out = append(out, ' ')
		out = strconv.AppendInt(out, int64(kid), 10)
	}
	return append(out, '\n')
}
