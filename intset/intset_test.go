package intset_test

import (
	"math"
	"math/rand"
	"slices"
	"testing"

	"apograph/api"
	"apograph/intset"
	"apograph/samples"
)

// The functions down to the samples restate the chapter's definitions in another way than the package does: members are looked for in the lists, and covers are looked for among all lists of indices, in the order in which the chapter compares them.

const end = 64

// upTo returns the integers from 0 to n - 1.
func upTo(n int) []int {
	var l []int
	for i := 0; i < n; i++ {
		l = append(l, i)
	}
	return l
}

func wantedCheck(l []int) api.Errno {
	last := -1
	for _, n := range l {
		switch {
		case n < 0 || n >= end:
			return api.ErrRange
		case n <= last:
			return api.ErrOrder
		}
		last = n
	}
	return api.OK
}

func wantedOf(l []int) ([]int, api.Errno) {
	sorted := slices.Sorted(slices.Values(l))
	if len(sorted) > 0 && (sorted[0] < 0 || sorted[len(sorted)-1] >= end) {
		return nil, api.ErrRange
	}
	return slices.Compact(sorted), api.OK
}

func areSets(l ...[]int) bool {
	for _, a := range l {
		if wantedCheck(a) != api.OK {
			return false
		}
	}
	return true
}

// only returns the elements of a that are, or are not, elements of b.
func only(a, b []int, are bool) []int {
	var l []int
	for _, n := range a {
		if slices.Contains(b, n) == are {
			l = append(l, n)
		}
	}
	return l
}

// sorted returns the elements of lists that have none in common.
func sorted(l ...[]int) []int {
	return slices.Sorted(slices.Values(slices.Concat(l...)))
}

func wantedComplement(n int, a []int) ([]int, api.Errno) {
	switch {
	case n < 0 || n > end:
		return nil, api.ErrRange
	case !areSets(a):
		return nil, api.ErrArgument
	case len(a) > 0 && slices.Max(a) >= n:
		return nil, api.ErrRange
	}
	return only(upTo(n), a, false), api.OK
}

func wantedPartition(n int, l [][]int) (bool, api.Errno) {
	switch {
	case n < 0 || n > end:
		return false, api.ErrRange
	case !areSets(l...):
		return false, api.ErrArgument
	}
	for _, a := range l {
		if len(a) == 0 {
			return false, api.OK
		}
	}
	return slices.Equal(sorted(l...), upTo(n)), api.OK
}

// isCover reports whether the sets with the indices are a cover of target.
func isCover(target []int, sets [][]int, indices []int) bool {
	var all []int
	for _, i := range indices {
		if len(only(sets[i], target, false)) > 0 {
			return false
		}
		all = append(all, sets[i]...)
	}
	return len(only(target, all, false)) == 0
}

// indexLists returns all lists of indices less than n, in the order in which covers are chosen.
func indexLists(n int) [][]int {
	var all [][]int
	for chosen := range 1 << n {
		var l []int
		for i := range n {
			if chosen>>i&1 == 1 {
				l = append(l, i)
			}
		}
		all = append(all, l)
	}
	slices.SortFunc(all, func(k, l []int) int {
		if len(k) != len(l) {
			return len(k) - len(l)
		}
		return slices.Compare(k, l)
	})
	return all
}

func wantedCover(target []int, sets [][]int) ([]int, api.Errno) {
	switch {
	case len(sets) > 16:
		return nil, api.ErrLimit
	case !areSets(target) || !areSets(sets...):
		return nil, api.ErrArgument
	}
	for _, l := range indexLists(len(sets)) {
		if isCover(target, sets, l) {
			return l, api.OK
		}
	}
	return nil, api.ErrNotFound
}

// subsets returns all subsets of l.
func subsets(l ...int) [][]int {
	all := [][]int{nil}
	for _, n := range l {
		for _, a := range all {
			all = append(all, append(slices.Clone(a), n))
		}
	}
	return all
}

// randomSet returns a set of integers less than n, of which it has about one in each every.
func randomSet(r *rand.Rand, n, every int) []int {
	var l []int
	for i := range n {
		if r.Intn(every) == 0 {
			l = append(l, i)
		}
	}
	return l
}

// sets returns sets by which to call functions of sets: all of few integers, among them the ends, random ones, and great ones.
func sets() [][]int {
	l := subsets(0, 1, 2, 31, 32, 63)
	r := rand.New(rand.NewSource(1))
	for i := range 60 {
		l = append(l, randomSet(r, end, 1+i%5))
	}
	return append(l, upTo(end), upTo(63), upTo(1), upTo(end)[1:], []int{62}, []int{62, 63})
}

// wrong are lists that are no sets.
func wrong() [][]int {
	return [][]int{
		{-1}, {64}, {math.MinInt}, {math.MaxInt}, {1 << 32}, {-64}, {128}, {0, 64}, {-1, 0}, {0, 1, math.MaxInt}, upTo(65),
		{0, 0}, {63, 63}, {1, 0}, {0, 2, 1}, {0, 2, 2}, {5, 5, 6}, {63, 0}, {3, 2, 64}, {3, 3, -1}, {64, 0}, append(upTo(64), 63), append(upTo(64), 0), slices.Repeat([]int{1}, 1000),
	}
}

// must returns a function that returns the result of an operation on sets, and fails the test if there is an error, or if the result is no set.
func must(t *testing.T, f func(a, b []int) ([]int, api.Errno)) func(a, b []int) []int {
	t.Helper()
	return func(a, b []int) []int {
		t.Helper()
		l, e := f(a, b)
		if e != api.OK || !areSets(l) {
			t.Errorf("%v and %v: %v, %d", a, b, l, e)
		}
		return l
	}
}

func complement(t *testing.T, n int, a []int) []int {
	t.Helper()
	l, e := intset.Complement(n, a)
	if e != api.OK || !areSets(l) {
		t.Errorf("Complement(%d, %v): %v, %d", n, a, l, e)
	}
	return l
}

// P4.1 for lists that the chapter's terms name.
func TestCheck(t *testing.T) {
	for i, c := range []struct {
		l    []int
		want api.Errno
	}{
		{nil, api.OK}, {[]int{}, api.OK}, {upTo(64), api.OK}, {[]int{0}, api.OK}, {[]int{63}, api.OK}, {[]int{0, 63}, api.OK}, {[]int{62, 63}, api.OK},
		{[]int{-1}, api.ErrRange}, {[]int{64}, api.ErrRange}, {[]int{math.MinInt}, api.ErrRange}, {[]int{math.MaxInt}, api.ErrRange}, {[]int{1 << 32}, api.ErrRange}, {upTo(65), api.ErrRange}, {[]int{0, -1}, api.ErrRange}, {[]int{5, -5}, api.ErrRange},
		{[]int{1, 0}, api.ErrOrder}, {[]int{0, 0}, api.ErrOrder}, {[]int{63, 63}, api.ErrOrder}, {append(upTo(64), 63), api.ErrOrder},
		// The first element that has an error has it, whatever comes behind it.
		{[]int{3, 2, 64}, api.ErrOrder}, {[]int{3, 3, -1}, api.ErrOrder}, {[]int{64, 3, 3}, api.ErrRange}, {[]int{1, 99, 0}, api.ErrRange}, {[]int{64, 64}, api.ErrRange}, {slices.Repeat([]int{1}, 100000), api.ErrOrder},
	} {
		if e := intset.Check(c.l); e != c.want {
			t.Errorf("case %d: %d", i, e)
		}
	}
}

// P4.1 and P4.2 for random lists, sorted or not, in range or not.
func TestRandomLists(t *testing.T) {
	r := rand.New(rand.NewSource(2))
	seen := map[api.Errno]int{}
	for i := range 20000 {
		l := make([]int, r.Intn(7))
		for j := range l {
			l[j] = r.Intn(70) - 3
		}
		if i%2 == 0 {
			slices.Sort(l)
		}
		check := samples.Unchanged(t, l)
		if e := intset.Check(l); e != wantedCheck(l) {
			t.Errorf("Check(%v): %d", l, e)
		}
		of, e := intset.Of(l)
		if want, f := wantedOf(l); !slices.Equal(of, want) || e != f {
			t.Errorf("Of(%v): %v, %d", l, of, e)
		}
		check()
		seen[wantedCheck(l)]++
	}
	if seen[api.OK] < 2000 || seen[api.ErrRange] < 2000 || seen[api.ErrOrder] < 2000 {
		t.Errorf("the lists are one-sided: %v", seen)
	}
}

// P4.1 and P4.2 for lists that the chapter's terms name.
func TestOf(t *testing.T) {
	backwards := upTo(64)
	slices.Reverse(backwards)
	for i, c := range []struct {
		l, want []int
		e       api.Errno
	}{
		{nil, nil, api.OK}, {[]int{7}, []int{7}, api.OK}, {[]int{63, 0}, []int{0, 63}, api.OK}, {[]int{5, 1, 5, 0, 1}, []int{0, 1, 5}, api.OK}, {[]int{2, 2}, []int{2}, api.OK}, {backwards, upTo(64), api.OK}, {upTo(64), upTo(64), api.OK}, {slices.Repeat([]int{9, 3}, 5000), []int{3, 9}, api.OK},
		{[]int{-1}, nil, api.ErrRange}, {[]int{64}, nil, api.ErrRange}, {[]int{5, 64}, nil, api.ErrRange}, {[]int{64, 5}, nil, api.ErrRange}, {[]int{1, 1, -1}, nil, api.ErrRange}, {[]int{math.MaxInt}, nil, api.ErrRange}, {[]int{math.MinInt, 0}, nil, api.ErrRange}, {upTo(65), nil, api.ErrRange},
	} {
		if l, e := intset.Of(c.l); !slices.Equal(l, c.want) || e != c.e {
			t.Errorf("case %d: %v, %d", i, l, e)
		}
	}
	for _, a := range sets() {
		if l, e := intset.Of(a); !slices.Equal(l, a) || e != api.OK {
			t.Errorf("Of(%v): %v, %d", a, l, e)
		}
	}
}

// P4.1 and P4.2 for all pairs of sets: what the operations return is what their definitions say.
func TestOperations(t *testing.T) {
	all := sets()
	for _, a := range all {
		for _, b := range all {
			check := samples.Unchanged(t, a, b)
			rest := only(a, b, false)
			if l, e := intset.Union(a, b); e != api.OK || !slices.Equal(l, sorted(rest, b)) {
				t.Errorf("Union(%v, %v): %v, %d", a, b, l, e)
			}
			if l, e := intset.Intersect(a, b); e != api.OK || !slices.Equal(l, only(a, b, true)) {
				t.Errorf("Intersect(%v, %v): %v, %d", a, b, l, e)
			}
			if l, e := intset.Minus(a, b); e != api.OK || !slices.Equal(l, rest) {
				t.Errorf("Minus(%v, %v): %v, %d", a, b, l, e)
			}
			if is, e := intset.Within(a, b); e != api.OK || is != (len(rest) == 0) {
				t.Errorf("Within(%v, %v): %v, %d", a, b, is, e)
			}
			check()
		}
	}
}

// P4.1 and P4.2 for the example of the chapter, and for sets by hand.
func TestOperationsByHand(t *testing.T) {
	for i, c := range []struct {
		a, b, union, both, minus []int
		within                   bool
	}{
		{[]int{1, 3}, []int{2, 3}, []int{1, 2, 3}, []int{3}, []int{1}, false},
		{nil, nil, nil, nil, nil, true}, {nil, []int{63}, []int{63}, nil, nil, true}, {[]int{63}, nil, []int{63}, nil, []int{63}, false}, {[]int{0}, []int{0}, []int{0}, []int{0}, nil, true}, {[]int{0}, []int{63}, []int{0, 63}, nil, []int{0}, false},
		{upTo(64), upTo(64), upTo(64), upTo(64), nil, true}, {upTo(64), nil, upTo(64), nil, upTo(64), false}, {nil, upTo(64), upTo(64), nil, nil, true}, {upTo(63), upTo(64), upTo(64), upTo(63), nil, true}, {upTo(64), upTo(63), upTo(64), upTo(63), []int{63}, false},
		{[]int{0, 31, 32}, []int{31, 63}, []int{0, 31, 32, 63}, []int{31}, []int{0, 32}, false},
	} {
		u, e := intset.Union(c.a, c.b)
		x, f := intset.Intersect(c.a, c.b)
		m, g := intset.Minus(c.a, c.b)
		w, h := intset.Within(c.a, c.b)
		if !slices.Equal(u, c.union) || !slices.Equal(x, c.both) || !slices.Equal(m, c.minus) || w != c.within || max(e, f, g, h) != api.OK {
			t.Errorf("case %d: %v, %v, %v, %v", i, u, x, m, w)
		}
	}
}

// P4.1 for lists that are no sets, as each argument.
func TestNoSets(t *testing.T) {
	for _, a := range wrong() {
		for _, b := range append(wrong(), nil, []int{1}, upTo(64)) {
			for _, p := range [][2][]int{{a, b}, {b, a}} {
				check := samples.Unchanged(t, a, b)
				u, e := intset.Union(p[0], p[1])
				x, f := intset.Intersect(p[0], p[1])
				m, g := intset.Minus(p[0], p[1])
				w, h := intset.Within(p[0], p[1])
				if len(u)+len(x)+len(m) > 0 || w || e != api.ErrArgument || f != e || g != e || h != e {
					t.Errorf("%v: %v, %v, %v, %v, %d, %d, %d, %d", p, u, x, m, w, e, f, g, h)
				}
				check()
			}
		}
		for n := -2; n <= 66; n++ {
			want := api.ErrArgument
			if n < 0 || n > 64 {
				want = api.ErrRange
			}
			if l, e := intset.Complement(n, a); len(l) != 0 || e != want {
				t.Errorf("Complement(%d, %v): %v, %d", n, a, l, e)
			}
			for _, l := range [][][]int{{a}, {{0}, a}, {nil, a}, {{0, 1}, {0}, a}, {a, {0, 1}}} {
				if is, e := intset.Partition(n, l); is || e != want {
					t.Errorf("Partition(%d, %v): %v, %d", n, l, is, e)
				}
			}
		}
		for _, l := range [][][]int{nil, {{0}}, {a}} {
			if cover, e := intset.Cover(a, l); len(cover) != 0 || e != api.ErrArgument {
				t.Errorf("Cover(%v, %v): %v, %d", a, l, cover, e)
			}
		}
		for _, l := range [][][]int{{a}, {{0}, a}, {a, {0}}, append(make([][]int, 15), a)} {
			for _, target := range [][]int{nil, {0}, {1}} {
				if cover, e := intset.Cover(target, l); len(cover) != 0 || e != api.ErrArgument {
					t.Errorf("Cover(%v, %v): %v, %d", target, l, cover, e)
				}
			}
		}
	}
}

// P4.3 for sets of which there are three or two at a time.
func TestAlgebra(t *testing.T) {
	union, both, minus := must(t, intset.Union), must(t, intset.Intersect), must(t, intset.Minus)
	all := append(subsets(0, 1, 62, 63), sets()[50:]...)
	for _, a := range all {
		for i, b := range all {
			if !slices.Equal(union(a, b), union(b, a)) || !slices.Equal(both(a, b), both(b, a)) {
				t.Errorf("%v and %v are not commutative", a, b)
			}
			if !slices.Equal(union(both(a, b), minus(a, b)), a) || len(both(both(a, b), minus(a, b))) != 0 {
				t.Errorf("%v is not divided by %v", a, b)
			}
			for _, c := range [][]int{all[(i*7+3)%len(all)], all[(i*5+len(a))%len(all)]} {
				if !slices.Equal(union(a, union(b, c)), union(union(a, b), c)) || !slices.Equal(both(a, both(b, c)), both(both(a, b), c)) {
					t.Errorf("%v, %v and %v are not associative", a, b, c)
				}
				if !slices.Equal(both(a, union(b, c)), union(both(a, b), both(a, c))) || !slices.Equal(union(a, both(b, c)), both(union(a, b), union(a, c))) {
					t.Errorf("%v, %v and %v are not distributive", a, b, c)
				}
			}
		}
	}
}

// P4.1, P4.2 and P4.4 for each n with all sets.
func TestComplements(t *testing.T) {
	all := append(sets(), wrong()...)
	for _, n := range append([]int{math.MinInt, -64, -1, 65, 66, 128, math.MaxInt}, upTo(65)...) {
		for _, a := range all {
			check := samples.Unchanged(t, a)
			l, e := intset.Complement(n, a)
			if want, f := wantedComplement(n, a); !slices.Equal(l, want) || e != f {
				t.Errorf("Complement(%d, %v): %v, %d", n, a, l, e)
			}
			if e == api.OK && !slices.Equal(complement(t, n, l), a) {
				t.Errorf("the complement of %v for %d has another one", a, n)
			}
			check()
		}
	}
}

// P4.4 for unions and intersections.
func TestComplementsExchange(t *testing.T) {
	union, both := must(t, intset.Union), must(t, intset.Intersect)
	for n, all := range map[int][][]int{64: sets(), 4: subsets(0, 1, 2, 3), 0: {nil}, 63: subsets(0, 30, 62)} {
		for _, a := range all {
			for _, b := range all {
				notA, notB := complement(t, n, a), complement(t, n, b)
				if !slices.Equal(complement(t, n, union(a, b)), both(notA, notB)) || !slices.Equal(complement(t, n, both(a, b)), union(notA, notB)) {
					t.Errorf("complements for %d do not exchange %v and %v", n, a, b)
				}
			}
		}
	}
}

// P4.1, P4.2 and P4.4 for the example of the chapter, and for the ends of the ranges.
func TestComplementByHand(t *testing.T) {
	for i, c := range []struct {
		n       int
		a, want []int
		e       api.Errno
	}{
		{5, []int{1, 3}, []int{0, 2, 4}, api.OK}, {0, nil, nil, api.OK}, {1, nil, []int{0}, api.OK}, {1, []int{0}, nil, api.OK}, {64, nil, upTo(64), api.OK}, {64, upTo(64), nil, api.OK}, {64, []int{63}, upTo(63), api.OK}, {64, upTo(63), []int{63}, api.OK}, {63, nil, upTo(63), api.OK}, {5, []int{4}, []int{0, 1, 2, 3}, api.OK},
		{5, []int{5}, nil, api.ErrRange}, {5, []int{0, 1, 63}, nil, api.ErrRange}, {0, []int{0}, nil, api.ErrRange}, {63, []int{63}, nil, api.ErrRange}, {-1, nil, nil, api.ErrRange}, {65, nil, nil, api.ErrRange}, {math.MinInt, nil, nil, api.ErrRange}, {math.MaxInt, nil, nil, api.ErrRange},
		// An n that is out of range comes first, and a list that is no set comes before a member that is too great.
		{65, []int{1, 1}, nil, api.ErrRange}, {-1, []int{64}, nil, api.ErrRange}, {64, []int{64}, nil, api.ErrArgument}, {5, []int{7, 7}, nil, api.ErrArgument}, {5, []int{7, 64}, nil, api.ErrArgument}, {0, []int{-1}, nil, api.ErrArgument},
	} {
		if l, e := intset.Complement(c.n, c.a); !slices.Equal(l, c.want) || e != c.e {
			t.Errorf("case %d: %v, %d", i, l, e)
		}
	}
}

// P4.5 for all pairs of sets.
func TestSubsets(t *testing.T) {
	union := must(t, intset.Union)
	count := 0
	for _, a := range sets() {
		for _, b := range sets() {
			is, e := intset.Within(a, b)
			if e != api.OK || is != slices.Equal(union(a, b), b) {
				t.Errorf("Within(%v, %v): %v, %d", a, b, is, e)
			}
			if is {
				count++
			}
		}
	}
	if count < 1000 {
		t.Errorf("only %d pairs are subsets", count)
	}
}

// P4.1 and P4.6 for lists of sets that the chapter's terms name.
func TestPartitionByHand(t *testing.T) {
	var singles [][]int
	for i := range 64 {
		singles = append(singles, []int{63 - i})
	}
	for i, c := range []struct {
		n  int
		l  [][]int
		is bool
		e  api.Errno
	}{
		{0, nil, true, api.OK}, {0, [][]int{}, true, api.OK}, {1, nil, false, api.OK}, {64, nil, false, api.OK}, {0, [][]int{{}}, false, api.OK}, {0, [][]int{{0}}, false, api.OK}, {1, [][]int{{0}}, true, api.OK},
		{4, [][]int{{0, 2}, {1, 3}}, true, api.OK}, {4, [][]int{{1, 3}, {0, 2}}, true, api.OK}, {4, [][]int{{0, 2}, {1}}, false, api.OK}, {4, [][]int{{0, 2}, {3}}, false, api.OK}, {4, [][]int{{0, 1, 2, 3}}, true, api.OK},
		{2, [][]int{{0, 1}, {}}, false, api.OK}, {2, [][]int{{}, {0, 1}}, false, api.OK}, {2, [][]int{{0}, nil, {1}}, false, api.OK},
		{3, [][]int{{0, 2}, {1, 2}}, false, api.OK}, {2, [][]int{{0, 1}, {0, 1}}, false, api.OK}, {3, [][]int{{0, 1}, {2}, {0}}, false, api.OK}, {3, [][]int{{0}, {1}, {0}, {2}}, false, api.OK},
		{3, [][]int{{0, 1}, {2, 3}}, false, api.OK}, {1, [][]int{{0}, {63}}, false, api.OK}, {3, [][]int{{1, 2, 3}}, false, api.OK}, {63, [][]int{upTo(64)}, false, api.OK},
		{64, [][]int{upTo(64)}, true, api.OK}, {64, [][]int{upTo(63), {63}}, true, api.OK}, {64, [][]int{upTo(63)}, false, api.OK}, {64, singles, true, api.OK}, {64, singles[1:], false, api.OK}, {63, singles[1:], true, api.OK}, {64, append(slices.Clone(singles), []int{5}), false, api.OK},
		{-1, nil, false, api.ErrRange}, {65, nil, false, api.ErrRange}, {math.MinInt, [][]int{{0}}, false, api.ErrRange}, {math.MaxInt, [][]int{{0}}, false, api.ErrRange}, {65, [][]int{upTo(65)}, false, api.ErrRange}, {-1, [][]int{{0, 0}}, false, api.ErrRange},
		{1, [][]int{{0, 0}}, false, api.ErrArgument}, {64, [][]int{{64}}, false, api.ErrArgument}, {2, [][]int{{1, 0}}, false, api.ErrArgument}, {2, [][]int{{}, {-1}}, false, api.ErrArgument}, {2, [][]int{{0, 1}, {1}, {2, 2}}, false, api.ErrArgument},
	} {
		if is, e := intset.Partition(c.n, c.l); is != c.is || e != c.e {
			t.Errorf("case %d: %v, %d", i, is, e)
		}
	}
}

// P4.1 and P4.6 for lists that were made by dividing the integers, and then mostly changed.
func TestPartitions(t *testing.T) {
	r := rand.New(rand.NewSource(3))
	count := 0
	for i := range 20000 {
		n := r.Intn(8)
		if i%10 == 0 {
			n = r.Intn(65)
		}
		l := make([][]int, 1+r.Intn(4))
		for m := range n {
			at := r.Intn(len(l))
			l[at] = append(l[at], m)
		}
		if i%2 == 0 {
			l = slices.DeleteFunc(l, func(a []int) bool { return len(a) == 0 })
		}
		for range r.Intn(3) {
			if at := r.Intn(len(l) + 1); at < len(l) {
				l[at] = randomSet(r, max(n, 1), 2)
			} else {
				n = max(0, n+r.Intn(3)-1)
			}
		}
		check := samples.Unchanged(t, l...)
		is, e := intset.Partition(n, l)
		if want, f := wantedPartition(n, l); is != want || e != f {
			t.Fatalf("Partition(%d, %v): %v, %d", n, l, is, e)
		}
		check()
		if is {
			count++
			checkPartition(t, n, l)
		}
	}
	if count < 3000 || count > 17000 {
		t.Errorf("%d of the lists are partitions", count)
	}
}

// checkPartition checks that each integer is in exactly one set. P4.6.
func checkPartition(t *testing.T, n int, l [][]int) {
	t.Helper()
	for m := range end {
		count := 0
		for _, a := range l {
			if slices.Contains(a, m) {
				count++
			}
		}
		if m < n && count != 1 || m >= n && count != 0 {
			t.Errorf("%d is in %d sets of %v", m, count, l)
		}
	}
}

// P4.1 and P4.7 for the example of the chapter, and for targets and sets that its terms name.
func TestCoverByHand(t *testing.T) {
	five := [][]int{{0}, {0, 1}, {1, 2}, {2}, {0, 3}}
	var singles [][]int
	for i := range 16 {
		singles = append(singles, []int{4 * i})
	}
	var ends []int
	for _, a := range singles {
		ends = append(ends, a[0])
	}
	for i, c := range []struct {
		target []int
		sets   [][]int
		want   []int
		e      api.Errno
	}{
		{[]int{0, 1, 2}, five, []int{0, 2}, api.OK}, {[]int{0, 2}, five, []int{0, 3}, api.OK}, {[]int{0, 3}, five, []int{4}, api.OK}, {[]int{0, 1, 2, 3}, five, []int{2, 4}, api.OK}, {[]int{0}, five, []int{0}, api.OK}, {[]int{0, 1}, five, []int{1}, api.OK},
		// The set 1, 2 is no subset of the target, so that nothing covers 1.
		{[]int{1}, five, nil, api.ErrNotFound}, {[]int{1, 3}, five, nil, api.ErrNotFound}, {[]int{0, 1, 2, 3, 4}, five, nil, api.ErrNotFound},
		{nil, nil, nil, api.OK}, {nil, five, nil, api.OK}, {nil, [][]int{{}, {}}, nil, api.OK}, {nil, [][]int{upTo(64)}, nil, api.OK}, {[]int{}, [][]int{}, nil, api.OK},
		{[]int{5}, nil, nil, api.ErrNotFound}, {[]int{63}, [][]int{{}}, nil, api.ErrNotFound}, {[]int{63}, [][]int{{}, {63}}, []int{1}, api.OK}, {upTo(64), [][]int{upTo(63), {63}}, []int{0, 1}, api.OK}, {upTo(64), [][]int{upTo(63), {63}, upTo(64)}, []int{2}, api.OK},
		{[]int{1, 2}, [][]int{{1}, {1}, {2}, {2}, {1}}, []int{0, 2}, api.OK}, {[]int{1, 2}, [][]int{{2}, {1}, {1}, {2}}, []int{0, 1}, api.OK}, {[]int{7}, slices.Repeat([][]int{{7}}, 16), []int{0}, api.OK}, {[]int{7, 8}, slices.Repeat([][]int{{7}}, 16), nil, api.ErrNotFound},
		// The first set is part of no cover with two indices.
		{[]int{0, 1, 2, 3}, [][]int{{0}, {0, 1}, {1, 2}, {2, 3}}, []int{1, 3}, api.OK}, {[]int{0, 1, 2}, [][]int{{0, 1, 2, 3}, {0}, {1}, {2}, {0, 1}}, []int{3, 4}, api.OK},
		// The set that has most members is part of no cover with the fewest indices.
		{[]int{0, 1, 2, 3, 4, 5}, [][]int{{1, 2, 3, 4}, {0, 1, 2}, {3, 4, 5}}, []int{1, 2}, api.OK},
		{ends, singles, upTo(16), api.OK}, {ends[1:], singles, upTo(16)[1:], api.OK}, {append(slices.Clone(ends), 61), singles, nil, api.ErrNotFound},
		{nil, make([][]int, 16), nil, api.OK}, {[]int{0}, make([][]int, 16), nil, api.ErrNotFound}, {nil, make([][]int, 17), nil, api.ErrLimit}, {[]int{0}, append(slices.Clone(singles), []int{0}), nil, api.ErrLimit}, {nil, make([][]int, 10000), nil, api.ErrLimit},
		{[]int{1, 0}, make([][]int, 17), nil, api.ErrLimit}, {nil, slices.Repeat([][]int{{64}}, 17), nil, api.ErrLimit}, {nil, slices.Repeat([][]int{{64}}, 16), nil, api.ErrArgument},
		{[]int{1, 0}, five, nil, api.ErrArgument}, {[]int{0, 0}, five, nil, api.ErrArgument}, {[]int{64}, nil, nil, api.ErrArgument}, {[]int{-1}, nil, nil, api.ErrArgument}, {nil, [][]int{{3, 3}}, nil, api.ErrArgument}, {[]int{9}, [][]int{{8, 9}, {2, 1}}, nil, api.ErrArgument}, {[]int{0}, [][]int{{0}, {-1}}, nil, api.ErrArgument},
	} {
		check := samples.Unchanged(t, append(slices.Clone(c.sets), c.target)...)
		if l, e := intset.Cover(c.target, c.sets); !slices.Equal(l, c.want) || e != c.e {
			t.Errorf("case %d: %v, %d", i, l, e)
		}
		check()
	}
}

// P4.1 and P4.7 for random targets and sets, many of which are subsets.
func TestCovers(t *testing.T) {
	r := rand.New(rand.NewSource(4))
	seen := map[int]int{}
	for i := range 4000 {
		target := upTo(i % 8)
		if i%4 == 1 {
			target = randomSet(r, 7, 2)
		}
		l := make([][]int, r.Intn(10))
		for j := range l {
			l[j] = only(target, randomSet(r, 7, 2+i%3), true)
			if r.Intn(6) == 0 {
				l[j] = randomSet(r, 7, 3)
			}
		}
		cover, e := intset.Cover(target, l)
		if want, f := wantedCover(target, l); !slices.Equal(cover, want) || e != f {
			t.Fatalf("Cover(%v, %v): %v, %d, not %v, %d", target, l, cover, e, want, f)
		}
		if e == api.OK && !isCover(target, l, cover) {
			t.Fatalf("Cover(%v, %v): %v", target, l, cover)
		}
		if e != api.OK {
			seen[-1]++
		} else {
			seen[len(cover)]++
		}
	}
	for _, size := range []int{-1, 0, 1, 2, 3, 4} {
		if seen[size] < 20 {
			t.Errorf("the covers are one-sided: %v", seen)
		}
	}
}

// P4.1: results are new memory.
func TestResultsAreNew(t *testing.T) {
	a, b := []int{1, 3}, []int{1, 3}
	for i, f := range []func() ([]int, api.Errno){
		func() ([]int, api.Errno) { return intset.Of(a) },
		func() ([]int, api.Errno) { return intset.Union(a, b) },
		func() ([]int, api.Errno) { return intset.Union(a, nil) },
		func() ([]int, api.Errno) { return intset.Intersect(a, b) },
		func() ([]int, api.Errno) { return intset.Minus(a, nil) },
		func() ([]int, api.Errno) { return intset.Complement(4, []int{0, 2}) },
		func() ([]int, api.Errno) { return intset.Cover(a, [][]int{{}, {1}, {}, {3}}) },
	} {
		first, _ := f()
		first[0] = 2
		if l, e := f(); !slices.Equal(l, []int{1, 3}) || e != api.OK || !slices.Equal(a, b) {
			t.Errorf("function %d: %v, %d", i, l, e)
		}
	}
}
