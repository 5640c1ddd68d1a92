package sequence_test

import (
	"math"
	"math/big"
	"math/rand"
	"slices"
	"testing"

	"apograph/api"
	"apograph/samples"
	"apograph/sequence"
)

// The functions down to wantedMoves restate the chapter's definitions in another way than the package does: all subsequences are listed and searched, covers are numbers of parts, and lists are put in order step by step.

const (
	maxToken  = 1024
	maxWeight = 1 << 20
)

// subsequencesFrom returns all lists of ascending indices from first to n - 1, in their order.
func subsequencesFrom(first, n int) [][]int {
	all := [][]int{nil}
	for i := first; i < n; i++ {
		for _, rest := range subsequencesFrom(i+1, n) {
			all = append(all, append([]int{i}, rest...))
		}
	}
	return all
}

// allPairs reports whether holds holds for each index and each one behind it.
func allPairs(l, indices []int, holds func(a, b int) bool) bool {
	for n, i := range indices {
		for _, k := range indices[n+1:] {
			if !holds(l[i], l[k]) {
				return false
			}
		}
	}
	return true
}

func isLess(a, b int) bool { return a < b }

func isNotLess(a, b int) bool { return a >= b }

// increasing returns all increasing subsequences of l, in their order.
func increasing(l []int) [][]int {
	return slices.DeleteFunc(subsequencesFrom(0, len(l)), func(s []int) bool { return !allPairs(l, s, isLess) })
}

func wantedIncreasing(l []int) []int {
	var first []int
	for _, s := range increasing(l) {
		if len(s) > len(first) {
			first = s
		}
	}
	return first
}

// weigh returns the sum of the weights of indices.
func weigh(weights, indices []int) int {
	sum := 0
	for _, i := range indices {
		sum += weights[i]
	}
	return sum
}

func wantedWeighted(l, weights []int) ([]int, int, api.Errno) {
	switch {
	case len(l) > maxToken:
		return nil, 0, api.ErrLimit
	case len(weights) != len(l):
		return nil, 0, api.ErrMismatch
	case slices.ContainsFunc(weights, func(w int) bool { return !(w >= 0 && w <= maxWeight) }):
		return nil, 0, api.ErrRange
	}
	var first []int
	for _, s := range increasing(l) {
		if weigh(weights, s) > weigh(weights, first) {
			first = s
		}
	}
	return first, weigh(weights, first), api.OK
}

// wantedCover numbers the part of each index, whose last element stands at the last place with this number.
func wantedCover(l []int) [][]int {
	numbers := make([]int, len(l))
	lastOf := func(number, before int) int {
		for i := before - 1; i >= 0; i-- {
			if numbers[i] == number {
				return i
			}
		}
		return -1
	}
	cover := make([][]int, len(l))
	for i := range l {
		for last := lastOf(0, i); last >= 0 && l[last] < l[i]; last = lastOf(numbers[i], i) {
			numbers[i]++
		}
		cover[numbers[i]] = append(cover[numbers[i]], i)
	}
	return slices.DeleteFunc(cover, func(part []int) bool { return part == nil })
}

// isSubsequence reports whether indices are indices of l that ascend.
func isSubsequence(l, indices []int) bool {
	isOutside := func(i int) bool { return !slices.Contains(upTo(len(l)), i) }
	return slices.Equal(slices.Compact(slices.Sorted(slices.Values(indices))), indices) && !slices.ContainsFunc(indices, isOutside)
}

func isCover(l []int, cover [][]int) bool {
	isWrong := func(part []int) bool { return !isSubsequence(l, part) || !allPairs(l, part, isNotLess) }
	return !slices.ContainsFunc(cover, isWrong) && slices.Equal(slices.Sorted(slices.Values(slices.Concat(cover...))), upTo(len(l)))
}

func wantedVerify(l, indices []int, cover [][]int) api.Errno {
	switch {
	case len(l) > maxToken:
		return api.ErrLimit
	case isSubsequence(l, indices) && allPairs(l, indices, isLess) && isCover(l, cover) && len(indices) == len(cover):
		return api.OK
	}
	return api.ErrCertificate
}

// wantedInversions counts how often two elements next to each other are exchanged until all ascend.
func wantedInversions(l []int) int {
	l = slices.Clone(l)
	count := 0
	for end := range l {
		for i := end; i > 0 && l[i-1] > l[i]; i-- {
			l[i-1], l[i] = l[i], l[i-1]
			count++
		}
	}
	return count
}

// isStep reports whether b is greater than a by 1.
func isStep(a, b int) bool {
	return new(big.Int).Sub(big.NewInt(int64(b)), big.NewInt(int64(a))).Cmp(big.NewInt(1)) == 0
}

// wantedRuns looks at all parts of l.
func wantedRuns(l []int) [][]int {
	var all [][]int
	for first := range l {
		for end := first + 1; end <= len(l); end++ {
			isRun := (first == 0 || !isStep(l[first-1], l[first])) && (end == len(l) || !isStep(l[end-1], l[end]))
			for i := first + 1; i < end; i++ {
				isRun = isRun && isStep(l[i-1], l[i])
			}
			if isRun {
				all = append(all, []int{first, end - first})
			}
		}
	}
	return all
}

func wantedPermutation(l []int) bool {
	return slices.Equal(slices.Sorted(slices.Values(l)), upTo(len(l)))
}

// key is a permutation of at most six numbers as what a map can be asked for.
func key(l []int) [6]int {
	var k [6]int
	copy(k[:], l)
	return k
}

// moved returns what one move, or none, makes of l.
func moved(l []int) [][]int {
	var all [][]int
	for from := range l {
		rest := slices.Delete(slices.Clone(l), from, from+1)
		for to := range l {
			all = append(all, slices.Insert(slices.Clone(rest), to, l[from]))
		}
	}
	return all
}

// movesOf returns for each permutation of n numbers how often an element must be taken out and put elsewhere.
func movesOf(n int) map[[6]int]int {
	moves := map[[6]int]int{key(upTo(n)): 0}
	for found := [][]int{upTo(n)}; len(found) > 0; found = found[1:] {
		for _, l := range moved(found[0]) {
			if _, is := moves[key(l)]; !is {
				moves[key(l)] = moves[key(found[0])] + 1
				found = append(found, l)
			}
		}
	}
	return moves
}

// moves are what movesOf returns, for up to six numbers.
var moves = []map[[6]int]int{movesOf(0), movesOf(1), movesOf(2), movesOf(3), movesOf(4), movesOf(5), movesOf(6)}

func wantedMoves(l []int) (int, api.Errno) {
	switch {
	case !wantedPermutation(l):
		return 0, api.ErrKind
	case len(l) >= len(moves):
		return len(l) - len(wantedIncreasing(l)), api.OK
	}
	return moves[len(l)][key(l)], api.OK
}

// upTo returns the integers from 0 to n - 1.
func upTo(n int) []int {
	l := make([]int, n)
	for i := range l {
		l[i] = i
	}
	return l
}

// downFrom returns the integers from n - 1 to 0.
func downFrom(n int) []int {
	l := upTo(n)
	slices.Reverse(l)
	return l
}

// singles returns the lists of one of the integers from 0 to n - 1.
func singles(n int) [][]int {
	var l [][]int
	for i := range n {
		l = append(l, []int{i})
	}
	return l
}

// runsOfOne returns n runs of one element.
func runsOfOne(n int) [][]int {
	var l [][]int
	for i := range n {
		l = append(l, []int{i, 1})
	}
	return l
}

// words returns all lists of at most most of the numbers.
func words(most int, numbers ...int) [][]int {
	all := [][]int{nil}
	for i := 0; len(all[i]) < most; i++ {
		for _, n := range numbers {
			all = append(all, append(slices.Clone(all[i]), n))
		}
	}
	return all
}

// permutations returns all permutations of n numbers.
func permutations(n int) [][]int {
	if n == 0 {
		return [][]int{nil}
	}
	var all [][]int
	for _, l := range permutations(n - 1) {
		for at := range n {
			all = append(all, slices.Insert(slices.Clone(l), at, n-1))
		}
	}
	return all
}

// pools are numbers of which random lists are made.
func pools() [][]int {
	return [][]int{
		upTo(3), upTo(6), upTo(12), {math.MinInt, math.MaxInt}, {math.MinInt, math.MinInt + 1, -1, 0, 1, math.MaxInt - 1, math.MaxInt}, {-3, -2, -1, 0, 1, 2, 3}, {math.MaxInt - 2, math.MaxInt - 1, math.MaxInt}, {math.MinInt, math.MinInt + 1, math.MinInt + 2}, {-1000, 5, 1000000},
	}
}

func randomList(r *rand.Rand, n int, pool []int) []int {
	l := make([]int, n)
	for i := range l {
		l[i] = pool[r.Intn(len(pool))]
	}
	return l
}

// lists returns short lists: all of few numbers, all permutations, and random ones.
func lists() [][]int {
	all := slices.Concat(words(5, 0, 1, 2), words(3, math.MinInt, math.MinInt+1, math.MaxInt-1, math.MaxInt), words(6, 4, 5))
	for n := range 7 {
		all = append(all, permutations(n)...)
	}
	r := rand.New(rand.NewSource(1))
	for i := range 900 {
		all = append(all, randomList(r, r.Intn(10), pools()[i%len(pools())]))
	}
	for range 100 {
		all = append(all, r.Perm(7+r.Intn(3)))
	}
	return all
}

// answers are what the functions of a list alone return.
type answers struct {
	longest           []int
	cover, runs       [][]int
	inversions, moves int
	isPermutation     bool
	longestErr        api.Errno
	coverErr, runsErr api.Errno
	inversionsErr     api.Errno
	movesErr          api.Errno
}

func ask(l []int) answers {
	var a answers
	a.longest, a.longestErr = sequence.Increasing(l)
	a.cover, a.coverErr = sequence.Cover(l)
	a.runs, a.runsErr = sequence.Runs(l)
	a.inversions, a.inversionsErr = sequence.Inversions(l)
	a.moves, a.movesErr = sequence.Moves(l)
	a.isPermutation = sequence.Permutation(l)
	return a
}

func wantedAnswers(l []int) answers {
	a := answers{longest: wantedIncreasing(l), cover: wantedCover(l), runs: wantedRuns(l), inversions: wantedInversions(l), isPermutation: wantedPermutation(l)}
	a.moves, a.movesErr = wantedMoves(l)
	return a
}

// areSame reports whether two lists of lists are equal.
func areSame(a, b [][]int) bool {
	return slices.EqualFunc(a, b, slices.Equal)
}

func (a answers) equal(b answers) bool {
	isSame := slices.Equal(a.longest, b.longest) && areSame(a.cover, b.cover) && areSame(a.runs, b.runs)
	isSame = isSame && a.inversions == b.inversions && a.moves == b.moves && a.isPermutation == b.isPermutation
	isSame = isSame && a.longestErr == b.longestErr && a.coverErr == b.coverErr && a.runsErr == b.runsErr
	return isSame && a.inversionsErr == b.inversionsErr && a.movesErr == b.movesErr
}

// P8.1, P8.2, P8.5 and P8.6 for the examples of the chapter, and for lists that its terms name.
func TestByHand(t *testing.T) {
	least, most := math.MinInt, math.MaxInt
	noMoves := answers{movesErr: api.ErrKind}
	for i, c := range []struct {
		l          []int
		longest    []int
		cover      [][]int
		inversions int
		runs       [][]int
	}{
		{[]int{3, 1, 2, 5, 4}, []int{1, 2, 3}, [][]int{{0, 1}, {2}, {3, 4}}, 3, [][]int{{0, 1}, {1, 2}, {3, 1}, {4, 1}}},
		{[]int{3, 4, 5, 9, 10}, upTo(5), singles(5), 0, [][]int{{0, 3}, {3, 2}}},
		{[]int{7}, []int{0}, singles(1), 0, runsOfOne(1)}, {[]int{-7}, []int{0}, singles(1), 0, runsOfOne(1)}, {[]int{least}, []int{0}, singles(1), 0, runsOfOne(1)}, {[]int{most}, []int{0}, singles(1), 0, runsOfOne(1)},
		// Equal elements are neither increasing nor an inversion.
		{[]int{7, 7, 7}, []int{0}, [][]int{{0, 1, 2}}, 0, runsOfOne(3)}, {[]int{7, 7, 8, 8}, []int{0, 2}, [][]int{{0, 1}, {2, 3}}, 0, [][]int{{0, 1}, {1, 2}, {3, 1}}}, {[]int{2, 1, 2, 1}, []int{1, 2}, [][]int{{0, 1, 3}, {2}}, 3, [][]int{{0, 1}, {1, 2}, {3, 1}}},
		{[]int{-1, 1, 2, 9}, upTo(4), singles(4), 0, [][]int{{0, 1}, {1, 2}, {3, 1}}}, {[]int{9, 2, 1, -1}, []int{0}, [][]int{upTo(4)}, 6, runsOfOne(4)}, {[]int{1, 3, 5, 4, 2}, []int{0, 1, 2}, [][]int{{0}, {1, 4}, {2, 3}}, 4, runsOfOne(5)}, {[]int{5, 3, 1, 2, 4}, []int{2, 3, 4}, [][]int{{0, 1, 2}, {3}, {4}}, 6, [][]int{{0, 1}, {1, 1}, {2, 2}, {4, 1}}},
		// The first of several longest ones is not the one with the least elements.
		{[]int{5, 1, 6, 2}, []int{0, 2}, [][]int{{0, 1}, {2, 3}}, 3, runsOfOne(4)}, {[]int{1, 5, 2, 6}, []int{0, 1, 3}, [][]int{{0}, {1, 2}, {3}}, 1, runsOfOne(4)}, {[]int{1, 2, 3, 2}, []int{0, 1, 2}, [][]int{{0}, {1, 3}, {2}}, 1, [][]int{{0, 3}, {3, 1}}}, {[]int{4, 5, 6, 1, 2, 3}, []int{0, 1, 2}, [][]int{{0, 3}, {1, 4}, {2, 5}}, 9, [][]int{{0, 3}, {3, 3}}},
		// The first index of all begins no longest one, or the longest one goes round the next element.
		{[]int{9, 1, 2}, []int{1, 2}, [][]int{{0, 1}, {2}}, 2, [][]int{{0, 1}, {1, 2}}}, {[]int{1, 9, 2, 3}, []int{0, 2, 3}, [][]int{{0}, {1, 2}, {3}}, 2, [][]int{{0, 1}, {1, 1}, {2, 2}}}, {[]int{2, 5, 3, 1, 4}, []int{0, 2, 4}, [][]int{{0, 3}, {1, 2}, {4}}, 5, runsOfOne(5)},
		// An element goes to the first subsequence that can take it, also to one whose last element is equal to it, and not to the one that was the last to be begun.
		{[]int{4, 4, 5, 4, 5}, []int{0, 2}, [][]int{{0, 1, 3}, {2, 4}}, 1, [][]int{{0, 1}, {1, 2}, {3, 2}}}, {[]int{4, 5, 6, 4}, []int{0, 1, 2}, [][]int{{0, 3}, {1}, {2}}, 2, [][]int{{0, 3}, {3, 1}}}, {[]int{4, 5, 6, 1, 3}, []int{0, 1, 2}, [][]int{{0, 3}, {1, 4}, {2}}, 6, [][]int{{0, 3}, {3, 1}, {4, 1}}}, {[]int{4, 5, 6, 5, 6}, []int{0, 1, 2}, [][]int{{0}, {1, 3}, {2, 4}}, 1, [][]int{{0, 3}, {3, 2}}}, {[]int{4, 8, 6, 5}, []int{0, 1}, [][]int{{0}, {1, 2, 3}}, 3, runsOfOne(4)},
		// Behind the greatest integer there is no step by 1 to the least one.
		{[]int{most, least}, []int{0}, [][]int{{0, 1}}, 1, runsOfOne(2)}, {[]int{least, most}, []int{0, 1}, singles(2), 0, runsOfOne(2)}, {[]int{most - 1, most, least, least + 1}, []int{0, 1}, [][]int{{0, 2}, {1, 3}}, 4, [][]int{{0, 2}, {2, 2}}}, {[]int{least, least + 1, most - 1, most}, upTo(4), singles(4), 0, [][]int{{0, 2}, {2, 2}}}, {[]int{most, most, least, least}, []int{0}, [][]int{upTo(4)}, 4, runsOfOne(4)}, {[]int{-1, 0, least, 0, most}, []int{0, 1, 4}, [][]int{{0, 2}, {1, 3}, {4}}, 2, [][]int{{0, 2}, {2, 1}, {3, 1}, {4, 1}}},
		// Runs end at steps by 0, 2 and -1, and next to each other.
		{[]int{1, 2, 2, 3}, []int{0, 1, 3}, [][]int{{0}, {1, 2}, {3}}, 0, [][]int{{0, 2}, {2, 2}}}, {[]int{1, 2, 4, 5}, upTo(4), singles(4), 0, [][]int{{0, 2}, {2, 2}}}, {[]int{3, 2, 1, 2}, []int{2, 3}, [][]int{{0, 1, 2}, {3}}, 4, [][]int{{0, 1}, {1, 1}, {2, 2}}}, {[]int{-2, -1, 0, 1}, upTo(4), singles(4), 0, [][]int{{0, 4}}}, {[]int{5, 6, 7, 6, 5}, []int{0, 1, 2}, [][]int{{0, 4}, {1, 3}, {2}}, 4, [][]int{{0, 3}, {3, 1}, {4, 1}}},
	} {
		check := samples.Unchanged(t, c.l)
		want := noMoves
		want.longest, want.cover, want.inversions, want.runs = c.longest, c.cover, c.inversions, c.runs
		if a := ask(c.l); !a.equal(want) || !a.equal(wantedAnswers(c.l)) {
			t.Errorf("case %d: %v", i, a)
		}
		check()
	}
	for _, l := range [][]int{nil, {}} {
		if a := ask(l); !a.equal(answers{isPermutation: true}) {
			t.Errorf("of no elements: %v", a)
		}
	}
}

// P8.1 to P8.7 for short lists.
func TestShortLists(t *testing.T) {
	several, permuted, sorted := 0, 0, 0
	for _, l := range lists() {
		check := samples.Unchanged(t, l)
		a := ask(l)
		if want := wantedAnswers(l); !a.equal(want) {
			t.Fatalf("%v: %v, not %v", l, a, want)
		}
		count := 0
		for _, s := range increasing(l) {
			if len(s) == len(a.longest) {
				count++
			}
		}
		if count > 1 {
			several++
		}
		if a.isPermutation {
			permuted++
		}
		if slices.IsSorted(l) {
			sorted++
		}
		checkLaws(t, l, a)
		check()
	}
	if several < 1000 || permuted < 900 || sorted < 100 {
		t.Errorf("the lists are one-sided: %d, %d, %d", several, permuted, sorted)
	}
}

// checkLaws checks what the answers for l have to do with each other, and with l. P8.2 to P8.7.
func checkLaws(t *testing.T, l []int, a answers) {
	t.Helper()
	if !isSubsequence(l, a.longest) || !allPairs(l, a.longest, isLess) || !isCover(l, a.cover) || sequence.Verify(l, a.longest, a.cover) != api.OK {
		t.Fatalf("P8.3: %v: %v, %v", l, a.longest, a.cover)
	}
	if slices.IsSorted(l) != (a.inversions == 0) {
		t.Fatalf("P8.5: %v: %d", l, a.inversions)
	}
	back := slices.Clone(l)
	slices.Reverse(back)
	if others, e := sequence.Inversions(back); a.isPermutation && a.inversions+others != len(l)*(len(l)-1)/2 || e != api.OK {
		t.Fatalf("P8.5: %v: %d and %d", l, a.inversions, others)
	}
	checkRuns(t, l, a.runs)
	if a.isPermutation && ((a.moves == 0) != slices.IsSorted(l) || a.moves != len(l)-len(a.longest)) {
		t.Fatalf("P8.7: %v: %d", l, a.moves)
	}
}

// checkRuns checks that the runs are the list part by part. P8.6.
func checkRuns(t *testing.T, l []int, runs [][]int) {
	t.Helper()
	end := 0
	for _, run := range runs {
		if len(run) != 2 || run[0] != end || run[1] < 1 || end+run[1] > len(l) || end > 0 && isStep(l[end-1], l[end]) {
			t.Fatalf("P8.6: %v: %v", l, runs)
		}
		end += run[1]
		for i := run[0] + 1; i < end; i++ {
			if !isStep(l[i-1], l[i]) {
				t.Fatalf("P8.6: %v: %v", l, runs)
			}
		}
	}
	if end != len(l) {
		t.Fatalf("P8.6: %v: %v", l, runs)
	}
}

// divisions returns all divisions of n indices into subsequences.
func divisions(n int) [][][]int {
	all := [][][]int{nil}
	for i := range n {
		var next [][][]int
		for _, parts := range all {
			for k := range parts {
				more := slices.Clone(parts)
				more[k] = append(slices.Clone(parts[k]), i)
				next = append(next, more)
			}
			next = append(next, append(slices.Clone(parts), []int{i}))
		}
		all = next
	}
	return all
}

// P8.2 and P8.3 for all increasing subsequences and all covers of short lists.
func TestCertificates(t *testing.T) {
	seen := map[api.Errno]int{}
	for _, l := range slices.Concat(words(5, 0, 1, 2), permutations(4), permutations(5)) {
		a := ask(l)
		fewest := len(l)
		for _, parts := range divisions(len(l)) {
			if isCover(l, parts) {
				fewest = min(fewest, len(parts))
			}
			for _, s := range increasing(l) {
				e := sequence.Verify(l, s, parts)
				want := api.ErrCertificate
				if isCover(l, parts) && len(s) == len(parts) {
					want = api.OK
				}
				if e != want || e == api.OK && (len(s) != len(a.longest) || len(parts) != len(a.cover)) {
					t.Fatalf("Verify(%v, %v, %v): %d", l, s, parts, e)
				}
				seen[e]++
			}
		}
		if len(a.cover) != fewest {
			t.Fatalf("%v: %v has more parts than %d", l, a.cover, fewest)
		}
	}
	if seen[api.OK] < 2000 || seen[api.ErrCertificate] < 2000 {
		t.Errorf("the certificates are one-sided: %v", seen)
	}
}

// P8.1 and P8.3 for each condition of Verify, which alone is broken.
func TestVerifyByHand(t *testing.T) {
	example, equal := []int{3, 1, 2, 5, 4}, []int{7, 7}
	best, parts := []int{1, 2, 3}, [][]int{{0, 1}, {2}, {3, 4}}
	for i, c := range []struct {
		l, indices []int
		cover      [][]int
		want       api.Errno
	}{
		{example, best, parts, api.OK}, {example, []int{1, 2, 4}, parts, api.OK}, {nil, nil, nil, api.OK}, {nil, []int{}, [][]int{}, api.OK}, {[]int{5}, []int{0}, singles(1), api.OK}, {equal, []int{0}, [][]int{{0, 1}}, api.OK}, {equal, []int{1}, [][]int{{0, 1}}, api.OK}, {[]int{1, 2}, []int{0, 1}, singles(2), api.OK}, {[]int{math.MinInt, math.MaxInt}, []int{0, 1}, singles(2), api.OK}, {[]int{math.MaxInt, math.MinInt}, []int{1}, [][]int{{0, 1}}, api.OK},
		// There are other covers than the greedy one, and the parts can stand in any order.
		{example, best, [][]int{{0, 2}, {1}, {3, 4}}, api.OK}, {example, best, [][]int{{3, 4}, {2}, {0, 1}}, api.OK}, {[]int{3, 2, 1, 5}, []int{2, 3}, [][]int{{0, 1, 2}, {3}}, api.OK}, {[]int{2, 1, 4, 3}, []int{1, 3}, [][]int{{2, 3}, {0, 1}}, api.OK}, {[]int{4, 5, 2}, []int{0, 1}, [][]int{{0}, {1, 2}}, api.OK},
		// What is in indices is no index.
		{example, []int{-1, 1, 2}, parts, api.ErrCertificate}, {example, []int{math.MinInt, 1, 2}, parts, api.ErrCertificate}, {example, []int{1, 2, 5}, parts, api.ErrCertificate}, {example, []int{1, 2, math.MaxInt}, parts, api.ErrCertificate}, {[]int{5}, []int{-1}, singles(1), api.ErrCertificate}, {[]int{5}, []int{1}, singles(1), api.ErrCertificate},
		// Indices are equal, or descend where the elements ascend.
		{example, []int{1, 1, 3}, parts, api.ErrCertificate}, {example, []int{1, 2, 2}, parts, api.ErrCertificate}, {example, []int{1, 0, 3}, parts, api.ErrCertificate}, {example, []int{2, 0, 3}, parts, api.ErrCertificate}, {example, []int{3, 2, 1}, parts, api.ErrCertificate}, {equal, []int{0, 0}, singles(2), api.ErrCertificate}, {equal, []int{1, 0}, singles(2), api.ErrCertificate},
		// Elements of indices do not ascend.
		{example, []int{0, 1, 3}, parts, api.ErrCertificate}, {example, []int{0, 1, 2}, parts, api.ErrCertificate}, {example, []int{2, 3, 4}, parts, api.ErrCertificate}, {equal, []int{0, 1}, singles(2), api.ErrCertificate}, {[]int{2, 1}, []int{0, 1}, singles(2), api.ErrCertificate}, {[]int{math.MaxInt, math.MinInt}, []int{0, 1}, singles(2), api.ErrCertificate},
		// A part is empty.
		{example, best, [][]int{{0, 1}, {2}, {3, 4}, {}}, api.ErrCertificate}, {example, best, [][]int{{0, 1}, {2}, nil}, api.ErrCertificate}, {example, best, [][]int{nil, {0, 1}, {2, 3, 4}}, api.ErrCertificate}, {nil, nil, [][]int{{}}, api.ErrCertificate}, {[]int{5}, []int{0}, [][]int{nil}, api.ErrCertificate}, {[]int{5}, []int{0}, [][]int{{0}, nil}, api.ErrCertificate},
		// An index is in the cover twice.
		{example, best, [][]int{{0, 0, 1}, {2}, {3, 4}}, api.ErrCertificate}, {example, best, [][]int{{0, 1}, {2, 2}, {3, 4}}, api.ErrCertificate}, {example, best, [][]int{{0, 1}, {0, 2}, {3, 4}}, api.ErrCertificate}, {example, best, [][]int{{0, 1}, {0}, {3, 4}}, api.ErrCertificate}, {example, best, [][]int{{0, 1}, {2}, {3, 3}}, api.ErrCertificate}, {[]int{1, 2}, []int{0, 1}, [][]int{{0}, {0}}, api.ErrCertificate}, {equal, []int{0}, [][]int{{0, 0}}, api.ErrCertificate}, {equal, []int{0}, [][]int{{0, 1, 1}}, api.ErrCertificate},
		// An index is missing.
		{example, best, [][]int{{0, 1}, {2}, {3}}, api.ErrCertificate}, {example, best, [][]int{{1}, {2}, {3, 4}}, api.ErrCertificate}, {equal, []int{0}, singles(1), api.ErrCertificate}, {equal, []int{0}, [][]int{{1}}, api.ErrCertificate}, {[]int{1}, nil, nil, api.ErrCertificate},
		// What is in a part is no index.
		{example, best, [][]int{{-1, 0, 1}, {2}, {3, 4}}, api.ErrCertificate}, {example, best, [][]int{{0, 1}, {-1}, {3, 4}}, api.ErrCertificate}, {example, best, [][]int{{0, 1}, {math.MinInt, 2}, {3, 4}}, api.ErrCertificate}, {example, best, [][]int{{0, 1}, {2}, {3, 4, 5}}, api.ErrCertificate}, {example, best, [][]int{{0, 1}, {5}, {3, 4}}, api.ErrCertificate}, {example, best, [][]int{{0, 1}, {2}, {3, 4, math.MaxInt}}, api.ErrCertificate}, {nil, nil, [][]int{{0}}, api.ErrCertificate}, {nil, []int{0}, singles(1), api.ErrCertificate},
		// Indices of a part descend.
		{equal, []int{0}, [][]int{{1, 0}}, api.ErrCertificate}, {[]int{4, 4, 4, 9}, []int{0, 3}, [][]int{{0, 2, 1}, {3}}, api.ErrCertificate}, {example, best, [][]int{{0, 1}, {2}, {4, 3}}, api.ErrCertificate}, {[]int{1, 2}, []int{0}, [][]int{{1, 0}}, api.ErrCertificate},
		// Elements of a part ascend.
		{example, best, [][]int{{0, 1}, {2, 3}, {4}}, api.ErrCertificate}, {example, best, [][]int{{0}, {1, 2}, {3, 4}}, api.ErrCertificate}, {[]int{1, 2}, []int{0}, [][]int{{0, 1}}, api.ErrCertificate}, {[]int{3, 1, 2}, []int{0}, [][]int{{0, 1, 2}}, api.ErrCertificate}, {[]int{math.MinInt, math.MaxInt}, []int{0}, [][]int{{0, 1}}, api.ErrCertificate},
		// There are fewer indices than parts, or more.
		{example, []int{1, 2}, parts, api.ErrCertificate}, {example, nil, parts, api.ErrCertificate}, {example, []int{0, 3}, parts, api.ErrCertificate}, {example, best, singles(5), api.ErrCertificate}, {example, best, nil, api.ErrCertificate}, {example, best, parts[:2], api.ErrCertificate}, {example, best, [][]int{upTo(5)}, api.ErrCertificate}, {example, nil, nil, api.ErrCertificate}, {equal, []int{0, 1}, [][]int{{0, 1}}, api.ErrCertificate}, {[]int{5}, nil, singles(1), api.ErrCertificate}, {[]int{5}, []int{0}, nil, api.ErrCertificate},
		{nil, nil, make([][]int, 100000), api.ErrCertificate}, {example, slices.Repeat([]int{1}, 100000), slices.Repeat([][]int{{1}}, 100000), api.ErrCertificate}, {example, upTo(100000), slices.Repeat([][]int{upTo(5)}, 100000), api.ErrCertificate},
	} {
		check, checkCover := samples.Unchanged(t, c.l, c.indices), samples.Unchanged(t, c.cover...)
		if e := sequence.Verify(c.l, c.indices, c.cover); e != c.want || e != wantedVerify(c.l, c.indices, c.cover) {
			t.Errorf("case %d: %d", i, e)
		}
		check()
		checkCover()
	}
}

// P8.1 and P8.3 for all indices and parts of the shortest lists, right and wrong ones.
func TestVerifyShortest(t *testing.T) {
	parts := words(2, -1, 0, 1, 2)
	covers := [][][]int{nil}
	for _, a := range parts {
		covers = append(covers, [][]int{a})
		for _, b := range parts {
			covers = append(covers, [][]int{a, b})
		}
	}
	right := 0
	for _, l := range words(2, 0, 1) {
		for _, indices := range words(3, -1, 0, 1, 2) {
			for _, cover := range covers {
				e := sequence.Verify(l, indices, cover)
				if e != wantedVerify(l, indices, cover) {
					t.Fatalf("Verify(%v, %v, %v): %d", l, indices, cover, e)
				}
				if e == api.OK {
					right++
				}
			}
		}
	}
	if right < 10 {
		t.Errorf("only %d certificates are right", right)
	}
}

// P8.1 and P8.3 for random indices and covers, which were made by changing right ones.
func TestVerify(t *testing.T) {
	r := rand.New(rand.NewSource(2))
	seen := map[api.Errno]int{}
	all := slices.DeleteFunc(lists(), func(l []int) bool { return len(l) == 0 })
	for range 40000 {
		l := all[r.Intn(len(all))]
		a := ask(l)
		change := func(indices []int) []int {
			at := r.Intn(len(indices) + 1)
			switch {
			case r.Intn(3) > 0 && at < len(indices):
				indices[at] += r.Intn(5) - 2
				return indices
			case r.Intn(2) > 0 && at < len(indices):
				return slices.Delete(indices, at, at+1)
			}
			return slices.Insert(indices, at, r.Intn(len(l)+2)-1)
		}
		for range r.Intn(2) {
			a.longest = change(a.longest)
		}
		for range r.Intn(3) {
			part := r.Intn(len(a.cover))
			a.cover[part] = change(a.cover[part])
		}
		check, checkCover := samples.Unchanged(t, l, a.longest), samples.Unchanged(t, a.cover...)
		e := sequence.Verify(l, a.longest, a.cover)
		if e != wantedVerify(l, a.longest, a.cover) {
			t.Fatalf("Verify(%v, %v, %v): %d", l, a.longest, a.cover, e)
		}
		check()
		checkCover()
		seen[e]++
	}
	if min(seen[api.OK], seen[api.ErrCertificate]) < 5000 {
		t.Errorf("the certificates are one-sided: %v", seen)
	}
}

// P8.1 and P8.4 for weights that the chapter's terms name, and for errors.
func TestWeightedByHand(t *testing.T) {
	one, two, three, up := []int{1}, []int{1, 2}, []int{1, 2, 3}, upTo(4)
	for i, c := range []struct {
		l, weights, want []int
		sum              int
		e                api.Errno
	}{
		{nil, nil, nil, 0, api.OK}, {[]int{}, []int{}, nil, 0, api.OK}, {one, []int{7}, []int{0}, 7, api.OK}, {[]int{3, 1, 2, 5, 4}, []int{9, 1, 1, 1, 5}, []int{0, 4}, 14, api.OK}, {[]int{3, 1, 2, 5, 4}, []int{1, 1, 1, 1, 1}, []int{1, 2, 3}, 3, api.OK}, {[]int{5, 1, 6, 2}, []int{1, 2, 1, 2}, []int{1, 3}, 4, api.OK},
		// Of several heaviest ones the first counts, however long it is.
		{[]int{2, 1}, []int{4, 4}, []int{0}, 4, api.OK}, {[]int{5, 1, 6, 2}, []int{1, 1, 1, 1}, []int{0, 2}, 2, api.OK}, {[]int{9, 1, 2}, []int{4, 1, 3}, []int{0}, 4, api.OK}, {[]int{1, 2, 9}, []int{1, 3, 4}, upTo(3), 8, api.OK}, {[]int{1, 9, 2, 3}, []int{1, 6, 2, 4}, []int{0, 1}, 7, api.OK}, {[]int{1, 2, 3, 2}, []int{1, 1, 5, 6}, []int{0, 1, 2}, 7, api.OK}, {[]int{1, 9, 2, 3}, []int{1, 5, 2, 4}, []int{0, 2, 3}, 7, api.OK}, {[]int{7, 7}, []int{3, 3}, []int{0}, 3, api.OK}, {[]int{7, 7}, []int{3, 4}, []int{1}, 4, api.OK},
		// What weighs nothing is left out at the end, but taken at the beginning and within where it can be.
		{one, []int{0}, nil, 0, api.OK}, {two, []int{0, 0}, nil, 0, api.OK}, {[]int{2, 1}, []int{0, 0}, nil, 0, api.OK}, {three, []int{0, 0, 0}, nil, 0, api.OK}, {three, []int{0, 5, 0}, []int{0, 1}, 5, api.OK}, {three, []int{5, 0, 0}, []int{0}, 5, api.OK}, {three, []int{0, 0, 5}, upTo(3), 5, api.OK}, {three, []int{5, 0, 5}, upTo(3), 10, api.OK}, {three, []int{5, 5, 0}, []int{0, 1}, 10, api.OK}, {[]int{2, 1, 3}, []int{0, 0, 5}, []int{0, 2}, 5, api.OK}, {[]int{9, 1, 3}, []int{0, 0, 5}, []int{1, 2}, 5, api.OK}, {[]int{9, 8, 3}, []int{0, 0, 5}, []int{2}, 5, api.OK}, {up, []int{1, 0, 0, 1}, upTo(4), 2, api.OK}, {[]int{0, 5, 1, 3}, []int{1, 0, 0, 1}, []int{0, 2, 3}, 2, api.OK}, {[]int{0, 1, 5, 3}, []int{1, 1, 0, 0}, []int{0, 1}, 2, api.OK}, {[]int{3, 1, 2}, []int{2, 2, 0}, []int{0}, 2, api.OK}, {[]int{1, 2, 2}, []int{0, 3, 3}, []int{0, 1}, 3, api.OK},
		{one, []int{maxWeight}, []int{0}, maxWeight, api.OK}, {two, []int{maxWeight, maxWeight}, []int{0, 1}, 2 * maxWeight, api.OK}, {upTo(maxToken), slices.Repeat([]int{maxWeight}, maxToken), upTo(maxToken), 1 << 30, api.OK}, {downFrom(maxToken), slices.Repeat([]int{maxWeight}, maxToken), []int{0}, maxWeight, api.OK}, {downFrom(maxToken), upTo(maxToken), []int{1023}, 1023, api.OK}, {make([]int, maxToken), make([]int, maxToken), nil, 0, api.OK}, {[]int{math.MinInt, math.MaxInt}, []int{1, 2}, []int{0, 1}, 3, api.OK}, {[]int{math.MaxInt, math.MinInt}, []int{1, 2}, []int{1}, 2, api.OK},
		{one, nil, nil, 0, api.ErrMismatch}, {nil, []int{1}, nil, 0, api.ErrMismatch}, {two, []int{1}, nil, 0, api.ErrMismatch}, {two, []int{1, 1, 1}, nil, 0, api.ErrMismatch}, {upTo(maxToken), make([]int, maxToken-1), nil, 0, api.ErrMismatch}, {upTo(maxToken), make([]int, maxToken+1), nil, 0, api.ErrMismatch}, {nil, make([]int, 100000), nil, 0, api.ErrMismatch},
		{one, []int{-1}, nil, 0, api.ErrRange}, {one, []int{maxWeight + 1}, nil, 0, api.ErrRange}, {one, []int{math.MinInt}, nil, 0, api.ErrRange}, {one, []int{math.MaxInt}, nil, 0, api.ErrRange}, {three, []int{5, -1, 5}, nil, 0, api.ErrRange}, {three, []int{5, 5, -1}, nil, 0, api.ErrRange}, {three, []int{maxWeight + 1, 5, 5}, nil, 0, api.ErrRange}, {[]int{2, 1}, []int{5, maxWeight + 1}, nil, 0, api.ErrRange}, {one, []int{1<<32 + 1}, nil, 0, api.ErrRange},
		// The length of the list comes first, then the number of weights.
		{two, []int{-1}, nil, 0, api.ErrMismatch}, {two, []int{1, 1, -1}, nil, 0, api.ErrMismatch}, {two, []int{maxWeight + 1}, nil, 0, api.ErrMismatch}, {nil, []int{-1}, nil, 0, api.ErrMismatch}, {upTo(maxToken + 1), upTo(maxToken + 1), nil, 0, api.ErrLimit}, {upTo(maxToken + 1), nil, nil, 0, api.ErrLimit}, {upTo(maxToken + 1), upTo(maxToken), nil, 0, api.ErrLimit}, {upTo(maxToken + 1), slices.Repeat([]int{-1}, maxToken+1), nil, 0, api.ErrLimit}, {upTo(maxToken + 1), []int{-1}, nil, 0, api.ErrLimit},
	} {
		check := samples.Unchanged(t, c.l, c.weights)
		if l, n, e := sequence.Weighted(c.l, c.weights); !slices.Equal(l, c.want) || n != c.sum || e != c.e {
			t.Errorf("case %d: %v, %d, %d", i, l, n, e)
		}
		check()
	}
}

// P8.1 and P8.4 for short lists with random weights.
func TestWeighted(t *testing.T) {
	r := rand.New(rand.NewSource(3))
	several, zero, wrong := 0, 0, 0
	kinds := [][]int{{0}, {0, 1}, {0, 0, 1, 2}, {1, 2, 3}, {0, 1, maxWeight - 1, maxWeight}, upTo(1000), {0, 5, 10, 15}, {0, 1, 2, maxWeight, -1, maxWeight + 1}}
	for i, l := range slices.Concat(lists(), lists()) {
		weights := randomList(r, len(l), kinds[i%len(kinds)])
		if r.Intn(20) == 0 {
			weights = append(weights, 1)
		}
		check := samples.Unchanged(t, l, weights)
		s, n, e := sequence.Weighted(l, weights)
		want, sum, f := wantedWeighted(l, weights)
		if !slices.Equal(s, want) || n != sum || e != f {
			t.Fatalf("Weighted(%v, %v): %v, %d, %d, not %v, %d, %d", l, weights, s, n, e, want, sum, f)
		}
		check()
		if e != api.OK {
			wrong++
			continue
		}
		count := 0
		for _, other := range increasing(l) {
			if weigh(weights, other) > n {
				t.Fatalf("Weighted(%v, %v): %v, not %v", l, weights, s, other)
			}
			if weigh(weights, other) == n {
				count++
			}
		}
		if count > 1 {
			several++
		}
		if slices.ContainsFunc(s, func(i int) bool { return weights[i] == 0 }) {
			zero++
		}
	}
	if several < 1000 || zero < 200 || wrong < 200 {
		t.Errorf("the weights are one-sided: %d, %d, %d", several, zero, wrong)
	}
}

// P8.4 for equal weights.
func TestEqualWeights(t *testing.T) {
	for _, l := range append(lists(), upTo(maxToken), downFrom(maxToken), rand.New(rand.NewSource(4)).Perm(maxToken)) {
		longest, _ := sequence.Increasing(l)
		for _, w := range []int{1, 2, 1000, maxWeight} {
			s, n, e := sequence.Weighted(l, slices.Repeat([]int{w}, len(l)))
			if !slices.Equal(s, longest) || n != w*len(longest) || e != api.OK {
				t.Errorf("%v with %d: %v, %d, %d", l, w, s, n, e)
			}
		}
	}
}

// heaviestOf returns the first of the heaviest increasing subsequences of l, of those that end with one index after the other.
func heaviestOf(l, weights []int) []int {
	isBetter := func(a, b []int) bool {
		more := weigh(weights, a) - weigh(weights, b)
		return more > 0 || more == 0 && slices.Compare(a, b) < 0
	}
	var best []int
	ended := make([][]int, len(l))
	for i := range l {
		ended[i] = []int{i}
		for k := range i {
			if s := append(slices.Clone(ended[k]), i); l[k] < l[i] && isBetter(s, ended[i]) {
				ended[i] = s
			}
		}
		if isBetter(ended[i], best) {
			best = ended[i]
		}
	}
	return best
}

// P8.1 to P8.7 for lists whose subsequences are too many to be listed.
func TestMiddlingLists(t *testing.T) {
	r := rand.New(rand.NewSource(5))
	for i := range 90 {
		l := randomList(r, 20+r.Intn(130), append(pools(), upTo(100), upTo(1000))[i%11])
		if i%3 == 0 {
			l = r.Perm(len(l))
		}
		if i%4 == 0 {
			slices.Sort(l[len(l)/3:])
		}
		a := ask(l)
		if want := heaviestOf(l, slices.Repeat([]int{1}, len(l))); !slices.Equal(a.longest, want) || !areSame(a.cover, wantedCover(l)) || !areSame(a.runs, wantedRuns(l)) || a.inversions != wantedInversions(l) || a.isPermutation != wantedPermutation(l) {
			t.Fatalf("%v: %v", l, a)
		}
		checkLaws(t, l, a)
		for _, kind := range [][]int{{0, 1}, {0, 0, 0, 1, 2}, {1, 2, 3}, upTo(10), {0, maxWeight}} {
			weights := randomList(r, len(l), kind)
			want := heaviestOf(l, weights)
			if s, n, e := sequence.Weighted(l, weights); !slices.Equal(s, want) || n != weigh(weights, want) || e != api.OK {
				t.Fatalf("Weighted(%v, %v): %v, %d, %d, not %v", l, weights, s, n, e, want)
			}
		}
	}
}

// P8.1 to P8.7 for as many elements as there can be.
func TestGreatLists(t *testing.T) {
	up, down, equal := upTo(maxToken), downFrom(maxToken), make([]int, maxToken)
	peak := slices.Concat(upTo(512), downFrom(512))
	swapped := upTo(maxToken)
	var pairs [][]int
	for i := 0; i < maxToken; i += 2 {
		swapped[i], swapped[i+1] = i+1, i
		pairs = append(pairs, []int{i, i + 1})
	}
	var odd, mirrored [][]int
	for i := range 512 {
		odd = append(odd, []int{2 * i, 1})
		mirrored = append(mirrored, []int{i, 1023 - i})
	}
	last := slices.Concat(up[1:], []int{0})
	for i, c := range []struct {
		l    []int
		want answers
	}{
		{up, answers{longest: up, cover: singles(maxToken), runs: [][]int{{0, maxToken}}, isPermutation: true}},
		{down, answers{longest: []int{0}, cover: [][]int{up}, runs: runsOfOne(maxToken), inversions: 1023 * 512, isPermutation: true, moves: 1023}},
		{equal, answers{longest: []int{0}, cover: [][]int{up}, runs: runsOfOne(maxToken), movesErr: api.ErrKind}},
		{peak, answers{longest: upTo(512), cover: mirrored, runs: append([][]int{{0, 512}}, runsOfOne(maxToken)[512:]...), inversions: 512 * 511, movesErr: api.ErrKind}},
		{swapped, answers{longest: column(odd, 0), cover: pairs, runs: runsOfOne(maxToken), inversions: 512, isPermutation: true, moves: 512}},
		{last, answers{longest: upTo(1023), cover: append([][]int{{0, 1023}}, singles(1023)[1:]...), runs: [][]int{{0, 1023}, {1023, 1}}, inversions: 1023, isPermutation: true, moves: 1}},
	} {
		check := samples.Unchanged(t, c.l)
		a := ask(c.l)
		if !a.equal(c.want) {
			t.Errorf("case %d: %v", i, a)
		}
		checkLaws(t, c.l, a)
		check()
	}
	r := rand.New(rand.NewSource(6))
	for i := range 30 {
		l := randomList(r, maxToken, append(pools(), upTo(100), upTo(100000))[i%11])
		if i%3 == 0 {
			l = r.Perm(maxToken)
		}
		a := ask(l)
		if a.inversions != wantedInversions(l) || len(a.longest) != longestOf(l) || !areSame(a.cover, wantedCover(l)) || max(a.longestErr, a.coverErr, a.runsErr, a.inversionsErr) != api.OK {
			t.Fatalf("%v: %v", l, a)
		}
		checkLaws(t, l, a)
	}
}

// column returns the elements at i of the lists of l.
func column(l [][]int, i int) []int {
	var all []int
	for _, row := range l {
		all = append(all, row[i])
	}
	return all
}

// longestOf returns the length of the longest increasing subsequence of l, by the least element with which one of each length ends.
func longestOf(l []int) int {
	var least []int
	for _, n := range l {
		at, _ := slices.BinarySearch(least, n)
		least = append(least[:at], append([]int{n}, least[min(at+1, len(least)):]...)...)
	}
	return len(least)
}

// P8.1: with more elements than there can be, there is an error before all others, and nothing beside it.
func TestLimits(t *testing.T) {
	for _, n := range []int{maxToken + 1, maxToken + 2, 2 * maxToken, 65536, 1 << 20} {
		for _, l := range [][]int{upTo(n), downFrom(n), make([]int, n), slices.Repeat([]int{math.MinInt}, n), slices.Repeat([]int{math.MaxInt}, n)} {
			want := answers{longestErr: api.ErrLimit, coverErr: api.ErrLimit, runsErr: api.ErrLimit, inversionsErr: api.ErrLimit, movesErr: api.ErrLimit}
			want.isPermutation = l[0] == n-1 || l[1] == 1
			if a := ask(l); !a.equal(want) {
				t.Errorf("%d elements: %v", n, a)
			}
			for _, weights := range [][]int{nil, {1}, {-1}, make([]int, n), slices.Repeat([]int{-1}, n), slices.Repeat([]int{maxWeight + 1}, n), l} {
				if s, sum, e := sequence.Weighted(l, weights); len(s) != 0 || sum != 0 || e != api.ErrLimit {
					t.Errorf("%d elements: Weighted with %d weights: %v, %d, %d", n, len(weights), s, sum, e)
				}
			}
			for _, cover := range [][][]int{nil, {nil}, {{0}}, {{-1}}, {upTo(n)}} {
				for _, indices := range [][]int{nil, {0}, {-1}, {n}, upTo(n)} {
					if e := sequence.Verify(l, indices, cover); e != api.ErrLimit {
						t.Errorf("%d elements: Verify: %d", n, e)
					}
				}
			}
		}
	}
}

// P8.1 and P8.7 for permutations, and for what is none.
func TestPermutationByHand(t *testing.T) {
	for i, c := range []struct {
		l    []int
		is   bool
		n    int
		want api.Errno
	}{
		{nil, true, 0, api.OK}, {[]int{}, true, 0, api.OK}, {[]int{0}, true, 0, api.OK}, {[]int{0, 1, 2}, true, 0, api.OK}, {[]int{1, 0}, true, 1, api.OK}, {[]int{2, 0, 1}, true, 1, api.OK}, {[]int{1, 2, 0}, true, 1, api.OK}, {[]int{2, 1, 0}, true, 2, api.OK}, {[]int{3, 2, 1, 0}, true, 3, api.OK}, {[]int{1, 0, 3, 2}, true, 2, api.OK}, {[]int{2, 3, 0, 1}, true, 2, api.OK}, {[]int{0, 2, 1, 3}, true, 1, api.OK}, {[]int{3, 1, 2, 0}, true, 2, api.OK}, {downFrom(maxToken), true, 1023, api.OK}, {upTo(maxToken), true, 0, api.OK},
		{[]int{1}, false, 0, api.ErrKind}, {[]int{-1}, false, 0, api.ErrKind}, {[]int{math.MinInt}, false, 0, api.ErrKind}, {[]int{math.MaxInt}, false, 0, api.ErrKind}, {[]int{1 << 32}, false, 0, api.ErrKind}, {[]int{1, 2}, false, 0, api.ErrKind}, {[]int{0, 0}, false, 0, api.ErrKind}, {[]int{1, 1}, false, 0, api.ErrKind}, {[]int{-1, 0}, false, 0, api.ErrKind}, {[]int{0, -1}, false, 0, api.ErrKind}, {[]int{0, 2}, false, 0, api.ErrKind}, {[]int{0, 1, 1}, false, 0, api.ErrKind}, {[]int{2, 1, 2}, false, 0, api.ErrKind}, {[]int{0, 1, 3}, false, 0, api.ErrKind}, {[]int{0, 0, 1, 1}, false, 0, api.ErrKind}, {[]int{0, 3, 0, 3}, false, 0, api.ErrKind}, {[]int{-1, 0, 1}, false, 0, api.ErrKind}, {[]int{1, math.MinInt, 2}, false, 0, api.ErrKind}, {make([]int, maxToken), false, 0, api.ErrKind}, {upTo(maxToken + 1)[1:], false, 0, api.ErrKind},
		// Permutation has no limit, and for Moves the limit comes first.
		{upTo(maxToken + 1), true, 0, api.ErrLimit}, {downFrom(maxToken + 1), true, 0, api.ErrLimit}, {rand.New(rand.NewSource(7)).Perm(300000), true, 0, api.ErrLimit}, {make([]int, maxToken+1), false, 0, api.ErrLimit}, {upTo(300001)[1:], false, 0, api.ErrLimit}, {append(upTo(300000), 299999), false, 0, api.ErrLimit}, {append(upTo(300000), 0), false, 0, api.ErrLimit}, {append(upTo(300000), -1), false, 0, api.ErrLimit},
	} {
		check := samples.Unchanged(t, c.l)
		n, e := sequence.Moves(c.l)
		if is := sequence.Permutation(c.l); is != c.is || n != c.n || e != c.want {
			t.Errorf("case %d: %v, %d, %d", i, is, n, e)
		}
		check()
	}
}

// P8.7: one move changes the number of moves by at most 1, and makes it less for some element unless the list ascends.
func TestMoves(t *testing.T) {
	number := func(l []int) int {
		n, e := sequence.Moves(l)
		if e != api.OK {
			t.Fatalf("Moves(%v): %d, %d", l, n, e)
		}
		return n
	}
	for n := range 7 {
		for _, l := range permutations(n) {
			own, isLess := number(l), false
			for _, other := range moved(l) {
				change := number(other) - own
				if change < -1 || change > 1 {
					t.Fatalf("%v and %v: %d", l, other, change)
				}
				isLess = isLess || change < 0
			}
			if isLess != (own > 0) || (own == 0) != slices.IsSorted(l) {
				t.Fatalf("Moves(%v): %d", l, own)
			}
		}
	}
	r := rand.New(rand.NewSource(8))
	l := upTo(maxToken)
	for i := range 200 {
		from, to := r.Intn(maxToken), r.Intn(maxToken)
		other := slices.Insert(slices.Delete(slices.Clone(l), from, from+1), to, l[from])
		if change := number(other) - number(l); change < -1 || change > 1 || number(other) > i+1 {
			t.Fatalf("%v and %v: %d", l, other, change)
		}
		l = other
	}
}

// P8.1: results are new memory, no two parts of which are the same.
func TestResultsAreNew(t *testing.T) {
	l, weights := []int{3, 1, 2, 5, 4}, []int{9, 1, 1, 1, 5}
	flat := func(s []int, e api.Errno) ([][]int, api.Errno) { return [][]int{s}, e }
	for i, c := range []struct {
		f    func() ([][]int, api.Errno)
		want [][]int
	}{
		{func() ([][]int, api.Errno) { return flat(sequence.Increasing(l)) }, [][]int{{1, 2, 3}}},
		{func() ([][]int, api.Errno) { s, _, e := sequence.Weighted(l, weights); return flat(s, e) }, [][]int{{0, 4}}},
		{func() ([][]int, api.Errno) { return sequence.Cover(l) }, [][]int{{0, 1}, {2}, {3, 4}}},
		{func() ([][]int, api.Errno) { return sequence.Runs(l) }, [][]int{{0, 1}, {1, 2}, {3, 1}, {4, 1}}},
	} {
		first, _ := c.f()
		for k := range first {
			whole := first[k][:cap(first[k])]
			for j := range whole {
				whole[j] = -7
			}
			for j, part := range first[k+1:] {
				if !slices.Equal(part, c.want[k+1+j]) {
					t.Errorf("function %d: %v shares memory with another part", i, part)
				}
			}
		}
		if again, e := c.f(); !areSame(again, c.want) || e != api.OK || !slices.Equal(l, []int{3, 1, 2, 5, 4}) || !slices.Equal(weights, []int{9, 1, 1, 1, 5}) {
			t.Errorf("function %d: %v, %d", i, again, e)
		}
	}
}
