package dag_test

import (
	"math"
	"math/rand"
	"slices"
	"testing"

	"apograph/api"
	"apograph/dag"
	"apograph/samples"
)

// The functions down to wantedVerify restate the chapter's definitions in another way than the package does: all paths are listed, and what is asked for is looked for among them.

const (
	maxNodes = 4096
	maxLinks = 65536
	maxCost  = 1 << 30
)

func wantedCheck(n int, l []api.Link) api.Errno {
	isNode := func(i int) bool { return i >= 0 && i <= n-1 }
	isCost := func(c int) bool { return c >= 0 && c <= maxCost }
	switch {
	case n <= 0 || n > maxNodes:
		return api.ErrRange
	case len(l) > maxLinks:
		return api.ErrLimit
	}
	for _, k := range l {
		switch {
		case !isNode(k.From), !isNode(k.To), !isCost(k.Cost):
			return api.ErrRange
		case !(k.From < k.To):
			return api.ErrOrder
		}
	}
	return api.OK
}

// paths returns all paths from s to t, in lexicographic order.
func paths(l []api.Link, s, t int) [][]int {
	if s == t {
		return [][]int{nil}
	}
	var all [][]int
	for i, k := range l {
		if k.From == s {
			for _, rest := range paths(l, k.To, t) {
				all = append(all, append([]int{i}, rest...))
			}
		}
	}
	return all
}

func cost(l []api.Link, path []int) int {
	sum := 0
	for _, i := range path {
		sum += l[i].Cost
	}
	return sum
}

// answers are what the functions return for two nodes of a graph.
type answers struct {
	path                 []int
	cost, longest, count int
	shortErr, longErr    api.Errno
	countErr             api.Errno
}

// wantedAnswers returns what the functions must return for s and t.
func wantedAnswers(l []api.Link, s, t int) answers {
	all := paths(l, s, t)
	if len(all) == 0 {
		return answers{shortErr: api.ErrNotFound, longErr: api.ErrNotFound}
	}
	want := answers{path: all[0], cost: cost(l, all[0]), count: len(all)}
	for _, path := range all {
		c := cost(l, path)
		if c < want.cost {
			want.path, want.cost = path, c
		}
		want.longest = max(want.longest, c)
	}
	return want
}

// wantedVerify looks for path among all paths, and for each condition of potentials.
func wantedVerify(n int, l []api.Link, s, t int, path, potentials []int) api.Errno {
	isPath := slices.ContainsFunc(paths(l, s, t), func(p []int) bool { return slices.Equal(p, path) })
	if !isPath || len(potentials) != n || potentials[t] != 0 || cost(l, path) != potentials[s] {
		return api.ErrCertificate
	}
	for _, p := range potentials {
		if p != -1 && p < 0 {
			return api.ErrCertificate
		}
	}
	for _, k := range l {
		from, to := potentials[k.From], potentials[k.To]
		// Two numbers that are not negative are less than 2^64 together.
		if to >= 0 && (from < 0 || uint64(from) > uint64(k.Cost)+uint64(to)) {
			return api.ErrCertificate
		}
	}
	return api.OK
}

// of returns links, each of which is given as its ends and its cost.
func of(numbers ...int) []api.Link {
	var l []api.Link
	for p := range slices.Chunk(numbers, 3) {
		l = append(l, api.Link{From: p[0], To: p[1], Cost: p[2]})
	}
	return l
}

// example is the graph of the chapter's example, with four nodes.
func example() []api.Link { return of(0, 1, 2, 0, 2, 5, 1, 2, 3, 2, 3, 1) }

// chain returns links from each of n nodes to the next one, as many as times, with the same cost.
func chain(n, times, cost int) []api.Link {
	var l []api.Link
	for i := 0; i < n-1; i++ {
		l = append(l, slices.Repeat(of(i, i+1, cost), times)...)
	}
	return l
}

// upTo returns the integers from 0 to n - 1.
func upTo(n int) []int {
	l := make([]int, n)
	for i := range l {
		l[i] = i
	}
	return l
}

// randomLink returns a link of n nodes.
func randomLink(r *rand.Rand, n int, costs []int) api.Link {
	to := 1 + r.Intn(n-1)
	return api.Link{From: r.Intn(to), To: to, Cost: costs[r.Intn(len(costs))]}
}

// randomGraph returns links of n nodes, as many as count if there can be one.
func randomGraph(r *rand.Rand, n, count int, costs []int) []api.Link {
	var l []api.Link
	for range count {
		if n > 1 {
			l = append(l, randomLink(r, n, costs))
		}
	}
	return l
}

// sample is a graph.
type sample struct {
	n int
	l []api.Link
}

// graphs returns small graphs: chosen ones, all lists of up to four of a few links, and random ones, many of which have several least paths.
func graphs() []sample {
	all := []sample{
		{1, nil}, {2, nil}, {7, nil}, {4, example()}, {5, of(0, 1, 0, 1, 2, 0, 0, 2, 0)}, {6, chain(6, 2, 0)}, {6, chain(6, 2, maxCost)}, {6, of(4, 5, 1, 3, 4, 1, 2, 3, 1, 1, 2, 1, 0, 1, 1, 0, 5, 5)},
		// A cost of 1 and -1 for what cannot be reached are 0 together, the potential of a node in front of links of cost 0.
		{3, of(0, 1, 1, 0, 2, 0)}, {4, of(1, 2, 1, 0, 2, 1, 0, 1, 0, 1, 3, 0)},
	}
	kinds := of(0, 1, 0, 0, 1, 1, 0, 2, 1, 1, 2, 0, 1, 2, 1)
	lists := [][]api.Link{nil}
	for i := 0; len(lists[i]) < 4; i++ {
		for _, k := range kinds {
			lists = append(lists, append(slices.Clone(lists[i]), k))
		}
	}
	for _, l := range lists {
		all = append(all, sample{3, l})
	}
	r := rand.New(rand.NewSource(1))
	for i := range 600 {
		costs := [][]int{{0}, {0, 1}, {1, 2, 3}, {0, 1, maxCost - 1, maxCost}, {0, 3, 5, 8, 1000}}[i%5]
		n := 1 + r.Intn(7)
		all = append(all, sample{n, randomGraph(r, n, r.Intn(13), costs)})
	}
	return all
}

// wrong are numbers of nodes with lists of links that are no graph.
func wrong() []sample {
	all := []sample{
		{0, nil}, {-1, nil}, {math.MinInt, nil}, {4097, nil}, {math.MaxInt, nil}, {0, example()}, {4097, example()}, {3, example()}, {2, make([]api.Link, 65537)}, {4096, slices.Repeat(of(0, 1, 1), 65537)},
	}
	for _, k := range [][]api.Link{of(-1, 1, 1), of(0, 4, 1), of(4, 5, 1), of(0, -1, 1), of(math.MinInt, 3, 1), of(0, math.MaxInt, 1), of(0, 1, -1), of(0, 1, maxCost+1), of(0, 1, math.MinInt), of(0, 1, math.MaxInt), of(1, 0, 1), of(2, 2, 1), of(0, 0, 0)} {
		all = append(all, sample{4, k}, sample{4, append(example(), k...)}, sample{4, append(k, example()...)})
	}
	return all
}

// ask returns what the functions return for s and t.
func ask(n int, l []api.Link, s, t int) answers {
	var a answers
	a.path, a.cost, a.shortErr = dag.Shortest(n, l, s, t)
	a.longest, a.longErr = dag.Longest(n, l, s, t)
	a.count, a.countErr = dag.Count(n, l, s, t)
	return a
}

func (a answers) equal(b answers) bool {
	isSame := a.cost == b.cost && a.longest == b.longest && a.count == b.count
	return isSame && slices.Equal(a.path, b.path) && a.shortErr == b.shortErr && a.longErr == b.longErr && a.countErr == b.countErr
}

func potentials(t *testing.T, n int, l []api.Link, end int) []int {
	t.Helper()
	p, e := dag.Potentials(n, l, end)
	if e != api.OK || len(p) != n {
		t.Fatalf("Potentials(%d, %v, %d): %v, %d", n, l, end, p, e)
	}
	return p
}

func reach(t *testing.T, n int, l []api.Link, s int) []int {
	t.Helper()
	r, e := dag.Reach(n, l, s)
	if e != api.OK {
		t.Fatalf("Reach(%d, %v, %d): %v, %d", n, l, s, r, e)
	}
	return r
}

// P5.1 for graphs, and for what is none.
func TestCheck(t *testing.T) {
	for i, c := range []struct {
		n    int
		l    []api.Link
		want api.Errno
	}{
		{1, nil, api.OK}, {2, []api.Link{}, api.OK}, {4096, nil, api.OK}, {4, example(), api.OK}, {4096, of(0, 4095, maxCost), api.OK}, {2, of(0, 1, 0), api.OK}, {2, slices.Repeat(of(0, 1, maxCost), maxLinks), api.OK}, {5, of(3, 4, 1, 0, 1, 1, 2, 3, 1, 0, 4, 1), api.OK},
		{0, nil, api.ErrRange}, {-1, nil, api.ErrRange}, {math.MinInt, nil, api.ErrRange}, {4097, nil, api.ErrRange}, {math.MaxInt, nil, api.ErrRange}, {1 << 32, nil, api.ErrRange},
		{2, slices.Repeat(of(0, 1, 1), maxLinks+1), api.ErrLimit}, {4096, make([]api.Link, 100000), api.ErrLimit},
		{2, of(0, 2, 1), api.ErrRange}, {2, of(0, math.MaxInt, 1), api.ErrRange}, {2, of(-1, 1, 1), api.ErrRange}, {2, of(math.MinInt, 1, 1), api.ErrRange}, {1, of(0, 1, 1), api.ErrRange}, {4096, of(0, 4096, 1), api.ErrRange}, {2, of(0, 1, -1), api.ErrRange}, {2, of(0, 1, math.MinInt), api.ErrRange}, {2, of(0, 1, maxCost+1), api.ErrRange}, {2, of(0, 1, math.MaxInt), api.ErrRange},
		{2, of(0, 0, 1), api.ErrOrder}, {2, of(1, 1, 1), api.ErrOrder}, {2, of(1, 0, 1), api.ErrOrder}, {4096, of(4095, 4094, 0), api.ErrOrder}, {2, slices.Repeat(of(1, 0, 1), maxLinks), api.ErrOrder},
		// The number of nodes comes first, then the number of links.
		{0, make([]api.Link, 65537), api.ErrRange}, {4097, make([]api.Link, 65537), api.ErrRange}, {0, of(1, 0, 0), api.ErrRange}, {-1, of(1, 0, 0), api.ErrRange}, {2, slices.Repeat(of(-1, 1, 1), maxLinks+1), api.ErrLimit}, {2, slices.Repeat(of(1, 0, 1), maxLinks+1), api.ErrLimit},
		// A link that has two errors is out of range.
		{2, of(1, 0, -1), api.ErrRange}, {2, of(1, 1, maxCost+1), api.ErrRange}, {2, of(2, 1, 0), api.ErrRange}, {2, of(2, 2, 0), api.ErrRange}, {2, of(1, -1, 0), api.ErrRange}, {2, of(-1, -1, 0), api.ErrRange}, {2, of(0, -1, 0), api.ErrRange},
		// The first link that has an error has it, whatever comes behind it.
		{2, of(0, 1, 1, 1, 0, 0, 0, 9, 0), api.ErrOrder}, {2, of(0, 1, 1, 0, 9, 0, 1, 0, 0), api.ErrRange}, {2, of(1, 1, 0, 0, 1, -1), api.ErrOrder}, {2, of(0, 1, -1, 1, 1, 0), api.ErrRange}, {2, append(slices.Repeat(of(0, 1, 1), maxLinks-1), of(1, 0, 1)...), api.ErrOrder}, {2, append(slices.Repeat(of(0, 1, 1), maxLinks-1), of(0, 1, -1)...), api.ErrRange},
	} {
		check := samples.Unchanged(t, c.l)
		if e := dag.Check(c.n, c.l); e != c.want || e != wantedCheck(c.n, c.l) {
			t.Errorf("case %d: %d", i, e)
		}
		check()
	}
}

// P5.1 for random numbers of nodes and links, with errors and without.
func TestChecks(t *testing.T) {
	r := rand.New(rand.NewSource(2))
	seen := map[api.Errno]int{}
	for range 20000 {
		n := r.Intn(8) - 1
		l := randomGraph(r, max(n, 2), r.Intn(5), []int{0, 1, maxCost})
		for i := range l {
			switch r.Intn(12) {
			case 0:
				l[i].From, l[i].To = l[i].To, l[i].From
			case 1:
				l[i].From = l[i].To
			case 2:
				l[i].From -= r.Intn(3)
			case 3:
				l[i].To += r.Intn(3)
			case 4:
				l[i].Cost += r.Intn(3) - 1
			}
		}
		e := dag.Check(n, l)
		if e != wantedCheck(n, l) {
			t.Errorf("Check(%d, %v): %d", n, l, e)
		}
		seen[e]++
	}
	if min(seen[api.OK], seen[api.ErrRange], seen[api.ErrOrder]) < 2000 {
		t.Errorf("the lists are one-sided: %v", seen)
	}
}

// P5.1: what is no graph comes before what is no node, and with both there are no other results.
func TestErrors(t *testing.T) {
	none := func(n int, l []api.Link, s, end int, want api.Errno) {
		t.Helper()
		if a := ask(n, l, s, end); !a.equal(answers{shortErr: want, longErr: want, countErr: want}) {
			t.Errorf("%d, %d, %d: %v", n, s, end, a)
		}
		if e := dag.Verify(n, l, s, end, nil, make([]int, 4)); e != want {
			t.Errorf("Verify with %d, %d, %d: %d", n, s, end, e)
		}
	}
	noneOfOne := func(n int, l []api.Link, node int, want api.Errno) {
		t.Helper()
		p, e := dag.Potentials(n, l, node)
		r, f := dag.Reach(n, l, node)
		if len(p)+len(r) > 0 || e != want || f != want {
			t.Errorf("%d, %d: %v, %d, %v, %d", n, node, p, e, r, f)
		}
	}
	for _, g := range wrong() {
		for _, p := range [][2]int{{0, 0}, {0, 3}, {-1, 0}, {0, -1}, {math.MaxInt, math.MinInt}} {
			none(g.n, g.l, p[0], p[1], api.ErrArgument)
			noneOfOne(g.n, g.l, p[0], api.ErrArgument)
		}
	}
	for _, node := range []int{-1, 4, 5, 4096, math.MinInt, math.MaxInt} {
		for _, other := range []int{0, 3, -1, 4, node} {
			none(4, example(), node, other, api.ErrRange)
			none(4, example(), other, node, api.ErrRange)
		}
		noneOfOne(4, example(), node, api.ErrRange)
	}
	none(1, nil, 0, 1, api.ErrRange)
	none(1, nil, 1, 0, api.ErrRange)
	noneOfOne(1, nil, 1, api.ErrRange)
	none(4096, nil, 4096, 0, api.ErrRange)
	none(4096, nil, 0, 4096, api.ErrRange)
}

// P5.1, P5.2, P5.5 and P5.6 for the example of the chapter, and for paths that its terms name.
func TestPathsByHand(t *testing.T) {
	missing := answers{shortErr: api.ErrNotFound, longErr: api.ErrNotFound}
	for i, c := range []struct {
		n    int
		l    []api.Link
		s, t int
		want answers
	}{
		{4, example(), 0, 3, answers{path: []int{0, 2, 3}, cost: 6, longest: 6, count: 2}}, {4, example(), 0, 2, answers{path: []int{0, 2}, cost: 5, longest: 5, count: 2}}, {4, example(), 0, 1, answers{path: []int{0}, cost: 2, longest: 2, count: 1}}, {4, example(), 1, 3, answers{path: []int{2, 3}, cost: 4, longest: 4, count: 1}},
		{1, nil, 0, 0, answers{count: 1}}, {4, example(), 0, 0, answers{count: 1}}, {4, example(), 3, 3, answers{count: 1}}, {4096, nil, 4095, 4095, answers{count: 1}}, {4096, of(0, 4095, 7), 0, 4095, answers{path: []int{0}, cost: 7, longest: 7, count: 1}},
		{4, example(), 3, 0, missing}, {4, example(), 2, 1, missing}, {2, nil, 0, 1, missing}, {2, nil, 1, 0, missing}, {4096, nil, 0, 4095, missing}, {4, of(0, 1, 1, 2, 3, 1), 0, 3, missing}, {3, of(0, 2, 1), 0, 1, missing}, {3, of(0, 2, 1), 1, 2, missing},
		{3, of(0, 2, 7, 0, 1, 1, 1, 2, 2, 0, 2, 3), 0, 2, answers{path: []int{1, 2}, cost: 3, longest: 7, count: 3}}, {3, of(0, 2, 3, 0, 1, 1, 1, 2, 2), 0, 2, answers{path: []int{0}, cost: 3, longest: 3, count: 2}}, {3, of(0, 1, 1, 0, 2, 3, 1, 2, 2), 0, 2, answers{path: []int{0, 2}, cost: 3, longest: 3, count: 2}}, {3, of(1, 2, 2, 0, 2, 3, 0, 1, 1), 0, 2, answers{path: []int{1}, cost: 3, longest: 3, count: 2}}, {3, of(1, 2, 2, 0, 1, 1, 0, 2, 3), 0, 2, answers{path: []int{1, 0}, cost: 3, longest: 3, count: 2}},
		// The first link leads on to no least path, or to none.
		{4, of(0, 1, 0, 0, 2, 1, 1, 3, 2, 2, 3, 0), 0, 3, answers{path: []int{1, 3}, cost: 1, longest: 2, count: 2}}, {4, of(0, 1, 0, 0, 2, 1, 2, 3, 0), 0, 3, answers{path: []int{1, 2}, cost: 1, longest: 1, count: 1}}, {3, of(0, 1, 1, 0, 2, 0), 0, 2, answers{path: []int{1}, count: 1}},
		{2, of(0, 1, 4, 0, 1, 4), 0, 1, answers{path: []int{0}, cost: 4, longest: 4, count: 2}}, {2, of(0, 1, 5, 0, 1, 4, 0, 1, 4), 0, 1, answers{path: []int{1}, cost: 4, longest: 5, count: 3}}, {3, of(1, 2, 1, 0, 1, 1, 1, 2, 0, 0, 1, 0), 0, 2, answers{path: []int{3, 2}, longest: 2, count: 4}},
		{4, of(2, 3, 0, 1, 3, 0, 0, 3, 0, 1, 2, 0, 0, 2, 0, 0, 1, 0), 0, 3, answers{path: []int{2}, count: 4}}, {4, of(0, 1, 0, 0, 2, 0, 0, 3, 0, 1, 2, 0, 1, 3, 0, 2, 3, 0), 0, 3, answers{path: []int{0, 3, 5}, count: 4}}, {4, of(0, 2, 0, 0, 1, 0, 0, 3, 0, 1, 3, 0, 1, 2, 0, 2, 3, 0), 0, 3, answers{path: []int{0, 5}, count: 4}}, {4, chain(4, 1, 0), 0, 3, answers{path: upTo(3), count: 1}},
		// Indices are compared as numbers.
		{2, append(slices.Repeat(of(0, 1, 9), 9), of(0, 1, 8, 0, 1, 8)...), 0, 1, answers{path: []int{9}, cost: 8, longest: 9, count: 11}},
		{3, of(0, 1, maxCost, 1, 2, maxCost), 0, 2, answers{path: []int{0, 1}, cost: 1 << 31, longest: 1 << 31, count: 1}}, {4096, chain(4096, 1, maxCost), 0, 4095, answers{path: upTo(4095), cost: 4095 << 30, longest: 4095 << 30, count: 1}}, {6, append(chain(6, 1, maxCost), of(0, 5, maxCost)...), 0, 5, answers{path: []int{5}, cost: maxCost, longest: 5 << 30, count: 2}},
	} {
		check := samples.Unchanged(t, c.l)
		if a := ask(c.n, c.l, c.s, c.t); !a.equal(c.want) {
			t.Errorf("case %d: %v", i, a)
		}
		check()
	}
}

// P5.1 and P5.3 for the example of the chapter, and for ends that its terms name.
func TestPotentialsByHand(t *testing.T) {
	descending := make([]int, 4096)
	for i := range descending {
		descending[i] = (4095 - i) << 30
	}
	for i, c := range []struct {
		n                   int
		l                   []api.Link
		node                int
		potentials, reached []int
	}{
		{4, example(), 3, []int{6, 4, 1, 0}, []int{3}}, {4, example(), 2, []int{5, 3, 0, -1}, []int{2, 3}}, {4, example(), 1, []int{2, 0, -1, -1}, []int{1, 2, 3}}, {4, example(), 0, []int{0, -1, -1, -1}, []int{0, 1, 2, 3}},
		{1, nil, 0, []int{0}, []int{0}}, {3, nil, 1, []int{-1, 0, -1}, []int{1}}, {4, chain(4, 2, 0), 2, []int{0, 0, 0, -1}, []int{2, 3}},
		{5, of(3, 4, 1, 1, 2, 1, 0, 3, 1), 4, []int{2, -1, -1, 1, 0}, []int{4}}, {5, of(3, 4, 1, 1, 2, 1, 0, 3, 1), 0, []int{0, -1, -1, -1, -1}, []int{0, 3, 4}}, {5, of(3, 4, 1, 1, 2, 1, 0, 3, 1), 2, []int{-1, 1, 0, -1, -1}, []int{2}}, {5, of(0, 4, 1, 0, 2, 1, 0, 4, 1, 2, 4, 3), 0, []int{0, -1, -1, -1, -1}, []int{0, 2, 4}},
		{3, of(0, 1, 1, 0, 2, 0), 2, []int{0, -1, 0}, []int{2}}, {4096, chain(4096, 1, maxCost), 4095, descending, []int{4095}}, {4096, chain(4096, 1, maxCost), 0, append([]int{0}, slices.Repeat([]int{-1}, 4095)...), upTo(4096)},
	} {
		check := samples.Unchanged(t, c.l)
		if p := potentials(t, c.n, c.l, c.node); !slices.Equal(p, c.potentials) {
			t.Errorf("case %d: %v", i, p)
		}
		if r := reach(t, c.n, c.l, c.node); !slices.Equal(r, c.reached) {
			t.Errorf("case %d: %v", i, r)
		}
		check()
	}
}

// P5.1 to P5.6 for all nodes of small graphs.
func TestSmallGraphs(t *testing.T) {
	several, found, missing := 0, 0, 0
	for _, g := range graphs() {
		check := samples.Unchanged(t, g.l)
		for s := range g.n {
			checkReach(t, g, s)
			checkPotentials(t, g, s)
			for end := range g.n {
				want := wantedAnswers(g.l, s, end)
				a := ask(g.n, g.l, s, end)
				if !a.equal(want) {
					t.Fatalf("%v, %d, %d: %v, not %v", g, s, end, a, want)
				}
				checkSteps(t, g, s, end, a)
				if a.shortErr != api.OK {
					missing++
					continue
				}
				found++
				if isLeast := func(p []int) bool { return cost(g.l, p) == a.cost && len(p) != len(a.path) }; slices.ContainsFunc(paths(g.l, s, end), isLeast) {
					several++
				}
			}
		}
		check()
	}
	if several < 200 || found < 5000 || missing < 5000 {
		t.Errorf("the graphs are one-sided: %d, %d, %d", several, found, missing)
	}
}

// checkReach checks what s reaches. P5.5.
func checkReach(t *testing.T, g sample, s int) {
	t.Helper()
	var want []int
	for node := range g.n {
		if len(paths(g.l, s, node)) > 0 {
			want = append(want, node)
		}
	}
	reached := reach(t, g.n, g.l, s)
	if !slices.Equal(reached, want) {
		t.Fatalf("Reach(%v, %d): %v", g, s, reached)
	}
	for node := range g.n {
		if count, e := dag.Count(g.n, g.l, s, node); (count > 0) != slices.Contains(reached, node) || e != api.OK {
			t.Fatalf("%v: %d paths from %d to %d", g, count, s, node)
		}
	}
}

// checkPotentials checks the potentials for end by least paths, and that they prove these. P5.3 and P5.4.
func checkPotentials(t *testing.T, g sample, end int) {
	t.Helper()
	for node, p := range potentials(t, g.n, g.l, end) {
		want := wantedAnswers(g.l, node, end)
		path, c, e := dag.Shortest(g.n, g.l, node, end)
		if e == api.ErrNotFound && p == -1 && want.count == 0 {
			continue
		}
		if e != api.OK || p != c || p != want.cost {
			t.Fatalf("%v: %d for %d and %d", g, p, node, end)
		}
		if e := dag.Verify(g.n, g.l, node, end, path, potentials(t, g.n, g.l, end)); e != api.OK {
			t.Fatalf("%v: %d for %v", g, e, path)
		}
	}
}

// checkSteps checks the answers for s and end by those for the nodes to which links lead from s. P5.5 and P5.6.
func checkSteps(t *testing.T, g sample, s, end int, a answers) {
	t.Helper()
	if a.shortErr == api.OK && a.longest < a.cost {
		t.Fatalf("%v, %d, %d: %d and %d", g, s, end, a.cost, a.longest)
	}
	if s == end {
		return
	}
	count, longest := 0, -1
	for _, k := range g.l {
		if k.From != s {
			continue
		}
		next := ask(g.n, g.l, k.To, end)
		count = min(count+next.count, maxCost)
		if next.longErr == api.OK {
			longest = max(longest, k.Cost+next.longest)
		}
	}
	if a.count != count || a.longErr == api.OK && a.longest != longest || (a.longErr == api.OK) != (longest >= 0) {
		t.Fatalf("%v, %d, %d: %d paths, not %d, of at most %d, not %d", g, s, end, a.count, count, a.longest, longest)
	}
}

// P5.1 and P5.4 for each condition of Verify, which alone is broken.
func TestVerifyByHand(t *testing.T) {
	for i, c := range []struct {
		s, t             int
		path, potentials []int
		want             api.Errno
	}{
		{0, 3, []int{0, 2, 3}, []int{6, 4, 1, 0}, api.OK}, {0, 3, []int{1, 3}, []int{6, 4, 1, 0}, api.OK}, {1, 3, []int{2, 3}, []int{6, 4, 1, 0}, api.OK}, {2, 3, []int{3}, []int{6, 4, 1, 0}, api.OK}, {3, 3, nil, []int{6, 4, 1, 0}, api.OK}, {0, 0, nil, []int{0, -1, -1, -1}, api.OK}, {0, 2, []int{1}, []int{5, 3, 0, -1}, api.OK},
		// Potentials can be less than the costs of least paths, or stand where there is no path.
		{1, 3, []int{2, 3}, []int{0, 4, 1, 0}, api.OK}, {2, 3, []int{3}, []int{0, 0, 1, 0}, api.OK}, {3, 3, nil, []int{0, 0, 0, 0}, api.OK}, {2, 2, nil, []int{5, 3, 0, 9}, api.OK}, {0, 2, []int{0, 2}, []int{5, 3, 0, 0}, api.OK}, {0, 2, []int{0, 2}, []int{5, 3, 0, math.MaxInt}, api.OK}, {0, 0, nil, []int{0, math.MaxInt, math.MaxInt, math.MaxInt}, api.OK}, {0, 1, []int{0}, []int{2, 0, math.MaxInt - 1, math.MaxInt - 2}, api.OK},
		// The path does not begin at s, does not end at t, or is broken off in the middle.
		{0, 3, []int{2, 3}, []int{4, 4, 1, 0}, api.ErrCertificate}, {0, 3, []int{3}, []int{1, 4, 1, 0}, api.ErrCertificate}, {0, 3, []int{0, 2}, []int{5, 4, 1, 0}, api.ErrCertificate}, {3, 0, nil, []int{0, 0, 0, 0}, api.ErrCertificate}, {0, 3, nil, []int{0, 4, 1, 0}, api.ErrCertificate}, {2, 1, nil, []int{2, 0, 0, -1}, api.ErrCertificate}, {0, 3, []int{0, 3}, []int{3, 4, 1, 0}, api.ErrCertificate}, {0, 3, []int{3, 2, 0}, []int{6, 4, 1, 0}, api.ErrCertificate},
		// What is in the path is no link.
		{0, 3, []int{0, 2, 3, 4}, []int{6, 4, 1, 0}, api.ErrCertificate}, {0, 3, []int{0, 2, 3, -1}, []int{6, 4, 1, 0}, api.ErrCertificate}, {0, 3, []int{-1, 0, 2, 3}, []int{6, 4, 1, 0}, api.ErrCertificate}, {0, 3, []int{4, 0, 2, 3}, []int{6, 4, 1, 0}, api.ErrCertificate}, {0, 3, []int{0, math.MaxInt, 2, 3}, []int{6, 4, 1, 0}, api.ErrCertificate}, {0, 3, []int{0, 2, math.MinInt, 3}, []int{6, 4, 1, 0}, api.ErrCertificate}, {3, 3, []int{4}, []int{6, 4, 1, 0}, api.ErrCertificate}, {3, 3, []int{-1}, []int{6, 4, 1, 0}, api.ErrCertificate},
		// There are too few or too many potentials.
		{0, 3, []int{0, 2, 3}, nil, api.ErrCertificate}, {0, 3, []int{0, 2, 3}, []int{6, 4, 1}, api.ErrCertificate}, {0, 0, nil, []int{0}, api.ErrCertificate}, {0, 2, []int{0, 2}, []int{5, 3, 0}, api.ErrCertificate}, {0, 3, []int{0, 2, 3}, []int{6, 4, 1, 0, 0}, api.ErrCertificate}, {0, 3, []int{0, 2, 3}, []int{6, 4, 1, 0, -1}, api.ErrCertificate}, {0, 2, []int{0, 2}, []int{5, 3, 0, -1, -1}, api.ErrCertificate},
		// A potential is below -1, which no link forbids.
		{1, 3, []int{2, 3}, []int{-2, 4, 1, 0}, api.ErrCertificate}, {3, 3, nil, []int{-3, 4, 1, 0}, api.ErrCertificate}, {1, 3, []int{2, 3}, []int{math.MinInt, 4, 1, 0}, api.ErrCertificate}, {2, 3, []int{3}, []int{math.MinInt, math.MinInt, 1, 0}, api.ErrCertificate},
		// The potential of t is not 0.
		{0, 3, []int{0, 2, 3}, []int{6, 4, 1, 1}, api.ErrCertificate}, {0, 3, []int{0, 2, 3}, []int{6, 4, 1, -1}, api.ErrCertificate}, {0, 3, []int{0, 2, 3}, []int{6, 4, 1, math.MaxInt}, api.ErrCertificate}, {0, 1, []int{0}, []int{2, 1, -1, -1}, api.ErrCertificate},
		// A node from which a link leads to a potential has none.
		{1, 3, []int{2, 3}, []int{-1, 4, 1, 0}, api.ErrCertificate}, {0, 3, []int{0, 2, 3}, []int{6, -1, 1, 0}, api.ErrCertificate}, {2, 3, []int{3}, []int{-1, -1, 1, 0}, api.ErrCertificate}, {2, 2, nil, []int{-1, 3, 0, -1}, api.ErrCertificate}, {3, 3, nil, []int{-1, -1, -1, 0}, api.ErrCertificate},
		// A potential is too great for a link.
		{0, 3, []int{1, 3}, []int{6, 5, 1, 0}, api.ErrCertificate}, {1, 3, []int{2, 3}, []int{7, 4, 1, 0}, api.ErrCertificate}, {0, 3, []int{1, 3}, []int{6, 3, 1, 0}, api.ErrCertificate}, {1, 3, []int{2, 3}, []int{math.MaxInt, 4, 1, 0}, api.ErrCertificate}, {2, 3, []int{3}, []int{0, math.MaxInt, 1, 0}, api.ErrCertificate}, {0, 1, []int{0}, []int{2, 0, math.MaxInt, math.MaxInt - 2}, api.ErrCertificate},
		// The path costs more than the potential of s.
		{0, 3, []int{0, 2, 3}, []int{5, 4, 1, 0}, api.ErrCertificate}, {0, 3, []int{1, 3}, []int{0, 0, 0, 0}, api.ErrCertificate}, {1, 3, []int{2, 3}, []int{0, 0, 1, 0}, api.ErrCertificate},
		// Several conditions are broken.
		{1, 3, []int{0, 2, 3}, []int{6, 6, 1, 0}, api.ErrCertificate}, {1, 2, []int{2, 3}, []int{3, 3, 0, -1}, api.ErrCertificate}, {2, 2, []int{3}, []int{5, 3, 0, -1}, api.ErrCertificate}, {0, 3, []int{0, 2, 3, 3}, []int{6, 4, 1, 0}, api.ErrCertificate}, {0, 3, []int{0, 0, 2, 3}, []int{6, 4, 1, 0}, api.ErrCertificate}, {0, 2, []int{0, 2}, []int{5, 3, 0, -2}, api.ErrCertificate}, {0, 3, []int{0, 2, 3}, []int{7, 5, 2, 1}, api.ErrCertificate}, {3, 3, nil, []int{6, 4, 1, -1}, api.ErrCertificate}, {0, 3, []int{0, 2, 3}, []int{-1, 4, 1, 0}, api.ErrCertificate}, {3, 0, nil, []int{0, -1, -1, -1}, api.ErrCertificate}, {3, 0, []int{3}, []int{0, 0, 0, 0}, api.ErrCertificate},
	} {
		check := samples.Unchanged(t, c.path, c.potentials)
		if e := dag.Verify(4, example(), c.s, c.t, c.path, c.potentials); e != c.want || e != wantedVerify(4, example(), c.s, c.t, c.path, c.potentials) {
			t.Errorf("case %d: %d", i, e)
		}
		check()
	}
}

// P5.1 and P5.4 for other graphs than the example, and for great costs.
func TestVerifyOtherGraphs(t *testing.T) {
	dear := chain(4096, 1, maxCost)
	exact := potentials(t, 4096, dear, 4095)
	raised := slices.Clone(exact)
	raised[2000]++
	for i, c := range []struct {
		n                int
		l                []api.Link
		s, t             int
		path, potentials []int
		want             api.Errno
	}{
		{4096, dear, 0, 4095, upTo(4095), exact, api.OK}, {4096, dear, 0, 4095, upTo(4095), raised, api.ErrCertificate}, {4096, dear, 0, 4095, upTo(4094), exact, api.ErrCertificate}, {4096, dear, 0, 4095, slices.Repeat([]int{0}, 100000), exact, api.ErrCertificate}, {4096, dear, 0, 4095, upTo(4095), exact[:4095], api.ErrCertificate},
		// Of several links to a node the cheapest one bounds the potential.
		{2, of(0, 1, 5, 0, 1, 4, 0, 1, 5), 0, 1, []int{1}, []int{4, 0}, api.OK}, {2, of(0, 1, 5, 0, 1, 4, 0, 1, 5), 0, 1, []int{0}, []int{5, 0}, api.ErrCertificate}, {2, of(0, 1, 5, 0, 1, 5, 0, 1, 4), 0, 1, []int{1}, []int{5, 0}, api.ErrCertificate}, {2, of(0, 1, 4, 0, 1, 4), 0, 1, []int{1}, []int{4, 0}, api.OK},
		{1, nil, 0, 0, nil, []int{0}, api.OK}, {1, nil, 0, 0, nil, nil, api.ErrCertificate}, {1, nil, 0, 0, nil, []int{1}, api.ErrCertificate}, {1, nil, 0, 0, []int{0}, []int{0}, api.ErrCertificate}, {2, nil, 0, 1, nil, []int{0, 0}, api.ErrCertificate}, {2, nil, 0, 1, nil, []int{-1, 0}, api.ErrCertificate}, {2, nil, 0, 0, nil, []int{0, -2}, api.ErrCertificate}, {2, nil, 0, 0, nil, []int{0, math.MinInt}, api.ErrCertificate}, {2, nil, 0, 0, nil, []int{0, math.MaxInt}, api.OK},
		{2, of(0, 1, 0), 0, 1, []int{0}, []int{0, 0}, api.OK}, {2, of(0, 1, 0), 0, 1, nil, []int{0, 0}, api.ErrCertificate}, {3, of(0, 1, 0, 1, 2, 0), 0, 2, []int{0}, []int{0, 0, 0}, api.ErrCertificate}, {3, of(0, 1, 0, 1, 2, 0), 0, 2, []int{1, 0}, []int{0, 0, 0}, api.ErrCertificate}, {3, of(0, 1, 0, 1, 2, 0), 0, 2, []int{0, 1}, []int{0, 0, 0}, api.OK}, {3, of(0, 1, 1, 0, 2, 0), 0, 2, []int{1}, []int{0, -1, 0}, api.OK}, {3, of(0, 1, 5, 0, 2, 9), 0, 2, []int{1}, []int{9, -1, 0}, api.OK}, {3, of(0, 1, 5, 0, 2, 9), 0, 2, []int{1}, []int{9, 3, 0}, api.ErrCertificate}, {3, of(0, 1, 5, 0, 2, 9), 0, 2, []int{1}, []int{9, 4, 0}, api.OK},
	} {
		if e := dag.Verify(c.n, c.l, c.s, c.t, c.path, c.potentials); e != c.want {
			t.Errorf("case %d: %d", i, e)
		}
	}
}

// P5.1 and P5.4 for random paths and potentials, most of which were made by changing right ones.
func TestVerify(t *testing.T) {
	r := rand.New(rand.NewSource(3))
	seen := map[api.Errno]int{}
	for range 10 {
		for _, g := range graphs()[700:] {
			s := r.Intn(g.n)
			end := s + r.Intn(g.n-s)
			path, p := randomPath(r, g, s, end), potentials(t, g.n, g.l, end)
			for range r.Intn(3) {
				p[r.Intn(g.n)] += []int{-2, -1, -1, 0, 1, math.MaxInt - 1<<40}[r.Intn(6)]
			}
			check, checkLists := samples.Unchanged(t, g.l), samples.Unchanged(t, path, p)
			e := dag.Verify(g.n, g.l, s, end, path, p)
			if e != wantedVerify(g.n, g.l, s, end, path, p) {
				t.Fatalf("Verify(%v, %d, %d, %v, %v): %d", g, s, end, path, p, e)
			}
			if _, least, _ := dag.Shortest(g.n, g.l, s, end); e == api.OK && cost(g.l, path) != least {
				t.Fatalf("%v, %d, %d: %v was accepted", g, s, end, path)
			}
			check()
			checkLists()
			seen[e]++
		}
	}
	if min(seen[api.OK], seen[api.ErrCertificate]) < 1000 {
		t.Errorf("the certificates are one-sided: %v", seen)
	}
}

// randomPath returns a path from s to end if there is one, which can then be changed.
func randomPath(r *rand.Rand, g sample, s, end int) []int {
	all := paths(g.l, s, end)
	if len(all) == 0 {
		return nil
	}
	path := all[r.Intn(len(all))]
	if len(path) > 0 && r.Intn(4) == 0 {
		path[r.Intn(len(path))] = r.Intn(len(g.l)+2) - 1
	}
	return path
}

// P5.1 and P5.5 for numbers of paths up to MaxCost, and for greater ones.
func TestGreatCounts(t *testing.T) {
	// From each node two links lead to the next one, and one to the last: the numbers of paths are one less than powers of two.
	var odd []api.Link
	for i := range 29 {
		odd = append(odd, of(i, i+1, 1, i, i+1, 1, i, 29, 1)...)
	}
	for i, c := range []struct {
		n          int
		l          []api.Link
		s, t, want int
	}{
		{31, chain(31, 2, 1), 0, 30, maxCost}, {31, chain(31, 2, 1), 1, 30, maxCost / 2}, {31, chain(31, 2, 1), 0, 29, maxCost / 2}, {31, append(chain(31, 2, 1), of(0, 30, 1)...), 0, 30, maxCost}, {31, append(of(0, 30, 1), chain(31, 2, 1)[2:]...), 0, 30, 1},
		{30, odd, 0, 29, maxCost - 1}, {30, odd, 1, 29, maxCost/2 - 1}, {30, append(of(0, 29, 1), odd...), 0, 29, maxCost}, {30, append(of(0, 29, 1, 0, 29, 1), odd...), 0, 29, maxCost},
		{33, chain(33, 2, 1), 0, 32, maxCost}, {64, chain(64, 2, 1), 0, 63, maxCost}, {65, chain(65, 2, 1), 0, 64, maxCost}, {66, chain(66, 2, 1), 0, 65, maxCost}, {100, chain(100, 2, 1), 0, 99, maxCost}, {4096, chain(4096, 16, 1), 0, 4095, maxCost}, {4096, chain(4096, 16, 1), 4088, 4095, 1 << 28}, {4096, chain(4096, 16, 1), 4087, 4095, maxCost}, {3, chain(3, 32768, 1), 0, 2, maxCost}, {3, chain(3, 32767, 1), 0, 2, 32767 * 32767}, {2, slices.Repeat(of(0, 1, 0), maxLinks), 0, 1, maxLinks},
	} {
		if count, e := dag.Count(c.n, c.l, c.s, c.t); count != c.want || e != api.OK {
			t.Errorf("case %d: %d, %d", i, count, e)
		}
	}
}

// leastPaths returns for each node the first of the least paths from s to it, and what they cost, by going on from what was found before.
func leastPaths(n int, l []api.Link, s int) (map[int][]int, map[int]int) {
	found, costs := map[int][]int{s: nil}, map[int]int{s: 0}
	for node := range n {
		for i, k := range l {
			path, is := found[k.From]
			if k.To != node || !is {
				continue
			}
			path, c := append(slices.Clone(path), i), costs[k.From]+k.Cost
			if least, is := costs[node]; !is || c < least || c == least && slices.Compare(path, found[node]) < 0 {
				found[node], costs[node] = path, c
			}
		}
	}
	return found, costs
}

// P5.1 to P5.4 for graphs whose paths are too many to be listed.
func TestMiddlingGraphs(t *testing.T) {
	r := rand.New(rand.NewSource(4))
	great := 0
	for i := range 60 {
		n := 20 + r.Intn(40)
		l := randomGraph(r, n, 20+r.Intn(700), [][]int{{0}, {0, 1}, {1, 2, 3, 4}, {0, 5, maxCost}}[i%4])
		s := r.Intn(n / 2)
		found, costs := leastPaths(n, l, s)
		for end := range n {
			path, c, e := dag.Shortest(n, l, s, end)
			want, is := found[end]
			if !slices.Equal(path, want) || c != costs[end] || (e == api.OK) != is {
				t.Fatalf("Shortest(%d, %v, %d, %d): %v, %d, %d", n, l, s, end, path, c, e)
			}
			p := potentials(t, n, l, end)
			if is && p[s] != c || !is && (p[s] != -1 || e != api.ErrNotFound) {
				t.Fatalf("Potentials(%d, %v, %d): %v", n, l, end, p)
			}
			if e == api.OK && dag.Verify(n, l, s, end, path, p) != api.OK {
				t.Fatalf("Verify(%d, %v, %d, %d)", n, l, s, end)
			}
			a := ask(n, l, s, end)
			checkSteps(t, sample{n, l}, s, end, a)
			if a.count == maxCost {
				great++
			}
		}
	}
	if great < 50 {
		t.Errorf("only %d numbers of paths are great", great)
	}
}

// P5.1 to P5.6 for as many nodes and links as there can be.
func TestGreatGraph(t *testing.T) {
	r := rand.New(rand.NewSource(5))
	l := append(chain(maxNodes, 1, maxCost), randomGraph(r, maxNodes, maxLinks-maxNodes+1, []int{0, 1, 7, maxCost})...)
	r.Shuffle(len(l), func(i, j int) { l[i], l[j] = l[j], l[i] })
	sorted := slices.Clone(l)
	slices.SortFunc(sorted, func(a, b api.Link) int { return a.From - b.From })
	least, most := slices.Repeat([]int{math.MaxInt}, maxNodes), make([]int, maxNodes)
	least[0] = 0
	for _, k := range sorted {
		least[k.To] = min(least[k.To], least[k.From]+k.Cost)
		most[k.To] = max(most[k.To], most[k.From]+k.Cost)
	}
	for _, end := range []int{0, 1, 2, 100, 2048, 4094, 4095} {
		a := ask(maxNodes, l, 0, end)
		if a.cost != least[end] || a.longest != most[end] || max(a.shortErr, a.longErr, a.countErr) != api.OK {
			t.Errorf("%d: %d and %d, not %d and %d", end, a.cost, a.longest, least[end], most[end])
		}
		if e := dag.Verify(maxNodes, l, 0, end, a.path, potentials(t, maxNodes, l, end)); e != api.OK {
			t.Errorf("%d: %d", end, e)
		}
	}
	if !slices.Equal(reach(t, maxNodes, l, 0), upTo(maxNodes)) {
		t.Error("not all nodes are reached")
	}
}

// P5.7 for links that are added before, between and behind the others.
func TestFurtherLinks(t *testing.T) {
	r := rand.New(rand.NewSource(6))
	seen := map[string]int{}
	for i, g := range graphs() {
		if g.n == 1 {
			continue
		}
		more := slices.Insert(slices.Clone(g.l), r.Intn(len(g.l)+1), randomLink(r, g.n, []int{0, 1, 2, maxCost}))
		for s := range g.n {
			for end := range g.n {
				a, b := ask(g.n, g.l, s, end), ask(g.n, more, s, end)
				isFound := a.shortErr == api.OK
				if b.count < a.count || isFound && (b.shortErr != api.OK || b.cost > a.cost || b.longErr != api.OK || b.longest < a.longest) {
					t.Fatalf("graph %d, %d, %d: %v, but %v with a further link", i, s, end, a, b)
				}
				countChanges(seen, isFound, a, b)
			}
		}
	}
	for _, change := range []string{"found", "cheaper", "dearer", "more"} {
		if seen[change] < 100 {
			t.Errorf("the links are one-sided: %v", seen)
		}
	}
}

// countChanges counts what a further link changed from a to b.
func countChanges(seen map[string]int, isFound bool, a, b answers) {
	switch {
	case !isFound && b.shortErr == api.OK:
		seen["found"]++
	case b.cost < a.cost:
		seen["cheaper"]++
	case b.longest > a.longest:
		seen["dearer"]++
	case b.count > a.count:
		seen["more"]++
	}
}

// P5.1: results are new memory.
func TestResultsAreNew(t *testing.T) {
	l := example()
	for i, c := range []struct {
		f    func() ([]int, api.Errno)
		want []int
	}{
		{func() ([]int, api.Errno) { path, _, e := dag.Shortest(4, l, 0, 3); return path, e }, []int{0, 2, 3}},
		{func() ([]int, api.Errno) { return dag.Potentials(4, l, 3) }, []int{6, 4, 1, 0}},
		{func() ([]int, api.Errno) { return dag.Reach(4, l, 1) }, []int{1, 2, 3}},
	} {
		first, _ := c.f()
		for k := range first {
			first[k] = -7
		}
		if again, e := c.f(); !slices.Equal(again, c.want) || e != api.OK || !slices.Equal(l, example()) {
			t.Errorf("function %d: %v, %d", i, again, e)
		}
	}
}
