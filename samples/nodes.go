package samples

import (
	"slices"
	"strconv"
	"strings"

	"apograph/api"
)

// Fields returns a text of all fields of all nodes of l.
func Fields(l []api.Node) string {
	var s strings.Builder
	var write func(l []api.Node)
	write = func(l []api.Node) {
		s.WriteString("[")
		for _, n := range l {
			s.WriteString("(" + strconv.Itoa(n.Kind) + " " + strconv.Quote(n.Text) + " " + strconv.Itoa(n.Number) + " ")
			write(n.Parts)
			s.WriteString(")")
		}
		s.WriteString("]")
	}
	write(l)
	return s.String()
}

// Copied returns a copy of l that shares no memory with it.
func Copied(l []api.Node) []api.Node {
	out := slices.Clone(l)
	for i := range out {
		out[i].Parts = Copied(out[i].Parts)
	}
	return out
}

// Doubled returns a list with more than 2^n nodes, all of which share their memory.
func Doubled(n int) []api.Node {
	l := []api.Node{{Kind: api.LineNode}}
	for range n {
		part := api.Node{Kind: api.UnclearNode, Parts: l}
		l = []api.Node{part, part}
	}
	return l
}

// CheckNew fails the test if two lists of a result, or one of them and one of other nodes, share memory. It clears the result.
func CheckNew(t Tester, result, other []api.Node) {
	t.Helper()
	lists, others := listsIn(result), listsIn(other)
	want, otherWant := Fields(result), Fields(other)
	for i, a := range lists {
		for _, b := range slices.Concat(lists[i+1:], others) {
			if &a[0] == &b[0] {
				t.Errorf("lists of %s share memory", want)
			}
		}
		// What is appended to one list must not be seen in another one.
		if _ = append(a, api.Node{Kind: 99}); Fields(result) != want || Fields(other) != otherWant {
			t.Errorf("lists of %s share memory behind their ends", want)
		}
	}
	for _, a := range lists {
		clear(a)
	}
	if Fields(other) != otherWant {
		t.Errorf("%s shares memory with other nodes", want)
	}
}

// listsIn returns l and all lists in it that are not empty.
func listsIn(l []api.Node) [][]api.Node {
	if len(l) == 0 {
		return nil
	}
	all := [][]api.Node{l}
	for _, n := range l {
		all = append(all, listsIn(n.Parts)...)
	}
	return all
}
