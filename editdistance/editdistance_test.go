package editdistance_test

import (
	"math"
	"math/rand"
	"slices"
	"strings"
	"testing"

	"apograph/api"
	"apograph/editdistance"
	"apograph/samples"
)

// The functions down to the samples restate the chapter's definitions in another way than the package does: distances are found by trying all edits, scripts from distances of all beginnings, and common subsequences among all subsequences.

const most = 256

// neighbours returns what single edits make of s, with bytes of chars.
func neighbours(s, chars string) []string {
	var l []string
	for at := range len(s) + 1 {
		if at < len(s) {
			l = append(l, s[:at]+s[at+1:])
		}
		for c := range len(chars) {
			l = append(l, s[:at]+chars[c:c+1]+s[at:])
			if at < len(s) {
				l = append(l, s[:at]+chars[c:c+1]+s[at+1:])
			}
		}
	}
	return l
}

// distances returns the distances of s to all strings of at most longest of the bytes of chars.
func distances(s, chars string, longest int) map[string]int {
	found := map[string]int{s: 0}
	for queue := []string{s}; len(queue) > 0; queue = queue[1:] {
		for _, next := range neighbours(queue[0], chars) {
			if _, known := found[next]; !known && len(next) <= longest {
				found[next] = found[queue[0]] + 1
				queue = append(queue, next)
			}
		}
	}
	return found
}

// table returns the distances of the beginnings of a and b, by their lengths.
func table(a, b []string) [][]int {
	d := make([][]int, len(a)+1)
	for i := range d {
		d[i] = make([]int, len(b)+1)
		for j := range d[i] {
			switch {
			case i == 0 || j == 0:
				d[i][j] = max(i, j)
			case a[i-1] == b[j-1]:
				d[i][j] = d[i-1][j-1]
			default:
				d[i][j] = 1 + min(d[i-1][j-1], d[i-1][j], d[i][j-1])
			}
		}
	}
	return d
}

// wantedScript returns the script, where d returns the distance of the first i bytes of a and the first j bytes of b.
func wantedScript(a, b string, d func(i, j int) int) []api.Edit {
	var l []api.Edit
	i, j := len(a), len(b)
	for i > 0 || j > 0 {
		switch {
		case i > 0 && j > 0 && a[i-1] == b[j-1] && d(i, j) == d(i-1, j-1):
			i, j = i-1, j-1
		case i > 0 && j > 0 && d(i, j) == d(i-1, j-1)+1:
			l = append(l, api.Edit{At: i - 1, Length: 1, Text: b[j-1 : j]})
			i, j = i-1, j-1
		case i > 0 && d(i, j) == d(i-1, j)+1:
			l = append(l, api.Edit{At: i - 1, Length: 1})
			i--
		default:
			l = append(l, api.Edit{At: i, Text: b[j-1 : j]})
			j--
		}
	}
	slices.Reverse(l)
	return l
}

func wantedSimilarity(a, b string, d int) int {
	n := max(len(a), len(b))
	similarity := 1000
	for n > 0 && similarity*n > 1000*(n-d) {
		similarity--
	}
	return similarity
}

func wantedBounded(d, bound int) (int, bool, api.Errno) {
	switch {
	case bound < 0:
		return 0, false, api.ErrRange
	case d > bound:
		return 0, false, api.OK
	}
	return d, true, api.OK
}

// wantedApply puts the texts in front of the bytes at which they stand, and leaves out what is replaced.
func wantedApply(a string, l []api.Edit) (string, api.Errno) {
	if len(a) > 65536 {
		return "", api.ErrLimit
	}
	texts, isReplaced := make([]string, len(a)+1), make([]bool, len(a)+1)
	end := 0
	for _, edit := range l {
		switch {
		case edit.At < 0 || edit.Length < 0 || edit.At > len(a) || edit.Length > len(a) || edit.At+edit.Length > len(a):
			return "", api.ErrRange
		case edit.At < end:
			return "", api.ErrOrder
		}
		texts[edit.At] += edit.Text
		for end = edit.At; end < edit.At+edit.Length; end++ {
			isReplaced[end] = true
		}
	}
	result := ""
	for i, text := range texts {
		result += text
		if i < len(a) && !isReplaced[i] {
			result += a[i : i+1]
		}
	}
	if len(result) > 65536 {
		return "", api.ErrLimit
	}
	return result, api.OK
}

func isSubsequence(part, whole []string) bool {
	for _, s := range whole {
		if len(part) > 0 && part[0] == s {
			part = part[1:]
		}
	}
	return len(part) == 0
}

// wantedCommon tries all subsequences of a.
func wantedCommon(a, b []string) []string {
	var best []string
	for members := range 1 << len(a) {
		var l []string
		for i, s := range a {
			if members>>i&1 == 1 {
				l = append(l, s)
			}
		}
		if isSubsequence(l, b) && (len(l) > len(best) || len(l) == len(best) && slices.Compare(l, best) < 0) {
			best = l
		}
	}
	return best
}

func elements(s string) []string {
	l := make([]string, len(s))
	for i := range l {
		l[i] = s[i : i+1]
	}
	return l
}

func reversed(s string) string {
	l := elements(s)
	slices.Reverse(l)
	return strings.Join(l, "")
}

// randomString returns up to longest bytes of chars.
func randomString(r *rand.Rand, chars string, longest int) string {
	s := make([]byte, r.Intn(longest+1))
	for i := range s {
		s[i] = chars[r.Intn(len(chars))]
	}
	return string(s)
}

// randomPairs returns pairs of strings, in many of which the second one is made of the first one by some edits.
func randomPairs(count, longest int, seed int64) [][2]string {
	r := rand.New(rand.NewSource(seed))
	pairs := make([][2]string, count)
	for i := range pairs {
		chars := []string{"ab", "abc", "abcdefghi \x00", "\xc3\xa4\xbc\xff\x80"}[r.Intn(4)]
		a := randomString(r, chars, longest)
		b := randomString(r, chars, longest)
		if i%2 == 0 {
			b = a
			for range r.Intn(8) {
				l := neighbours(b, chars)
				b = l[r.Intn(len(l))]
			}
		}
		pairs[i] = [2]string{a, b[:min(len(b), longest)]}
	}
	return pairs
}

// randomList returns up to longest strings, many of which are equal.
func randomList(r *rand.Rand, longest int) []string {
	words := []string{"", "a", "b", "ab", "a\x00", "\xff"}
	l := make([]string, r.Intn(longest+1))
	for i := range l {
		l[i] = words[r.Intn(len(words))]
	}
	return l
}

// lists returns lists by which to call functions of lists, with at most 6 elements.
func lists() [][]string {
	var l [][]string
	for _, s := range samples.Strings("ab", 4) {
		l = append(l, elements(s))
	}
	r := rand.New(rand.NewSource(1))
	for range 100 {
		l = append(l, randomList(r, 6))
	}
	return append(l, nil, []string{"in", "principio"}, []string{"in", "initio"}, []string{"", ""}, []string{"b", "ab", "a"})
}

func distance(t *testing.T, a, b string) int {
	t.Helper()
	d, e := editdistance.Distance(a, b)
	if e != api.OK {
		t.Fatalf("Distance(%q, %q): %d", a, b, e)
	}
	return d
}

func listDistance(t *testing.T, a, b []string) int {
	t.Helper()
	d, e := editdistance.Lists(a, b)
	if e != api.OK {
		t.Fatalf("Lists(%q, %q): %d", a, b, e)
	}
	return d
}

// checkPair checks all functions of two strings, where d returns the distances of their beginnings. P3.1, P3.3, P3.5 and P3.7.
func checkPair(t *testing.T, a, b string, d func(i, j int) int) {
	t.Helper()
	want := d(len(a), len(b))
	if n := distance(t, a, b); n != want {
		t.Errorf("Distance(%q, %q): %d, not %d", a, b, n, want)
	}
	if n := listDistance(t, elements(a), elements(b)); n != want {
		t.Errorf("Lists of the bytes of %q and %q: %d, not %d", a, b, n, want)
	}
	l, e := editdistance.Script(a, b)
	if e != api.OK || len(l) != want || !slices.Equal(l, wantedScript(a, b, d)) {
		t.Errorf("Script(%q, %q): %v, %d", a, b, l, e)
	}
	if s, e := editdistance.Apply(a, l); s != b || e != api.OK {
		t.Errorf("the script from %q to %q leads to %q, %d", a, b, s, e)
	}
	s, e := editdistance.Similarity(a, b)
	if e != api.OK || s != wantedSimilarity(a, b, want) || s < 0 || s > 1000 || (s == 1000) != (a == b) {
		t.Errorf("Similarity(%q, %q): %d, %d", a, b, s, e)
	}
	for _, bound := range []int{math.MinInt, -1, 0, 1, want - 1, want, want + 1, 256, 257, math.MaxInt} {
		n, is, e := editdistance.Bounded(a, b, bound)
		if m, has, f := wantedBounded(want, bound); n != m || is != has || e != f {
			t.Errorf("Bounded(%q, %q, %d): %d, %v, %d", a, b, bound, n, is, e)
		}
	}
}

// P3.1, P3.3, P3.5 and P3.7 for all pairs of short strings: no edits lead from one to the other that are fewer.
func TestShortPairs(t *testing.T) {
	const chars, longest = "ab\xff", 4
	all := samples.Strings(chars, longest)
	found := map[string]map[string]int{}
	for _, a := range all {
		found[a] = distances(a, chars, longest)
	}
	for _, a := range all {
		for _, b := range all {
			checkPair(t, a, b, func(i, j int) int { return found[a[:i]][b[:j]] })
		}
	}
}

// P3.1, P3.3, P3.5 and P3.7 for random pairs, and for pairs that the chapter's terms name.
func TestLongPairs(t *testing.T) {
	pairs := append(randomPairs(2000, 14, 2), randomPairs(60, most, 3)...)
	long := strings.Repeat("ab", 128)
	for _, s := range []string{"", "a", "b", long[1:], long[:128], long[128:], strings.Repeat("ba", 128), strings.Repeat("c", 256), strings.Repeat("\xff", 256)} {
		pairs = append(pairs, [2]string{long, s}, [2]string{s, long})
	}
	pairs = append(pairs, [2]string{long, long}, [2]string{"rex", "rexit"}, [2]string{"dixit", "it"}, [2]string{"\x00", ""}, [2]string{"\x00\x01", "\x01\x00"}, [2]string{"\u00e4", "a"})
	for _, p := range pairs {
		d := table(elements(p[0]), elements(p[1]))
		checkPair(t, p[0], p[1], func(i, j int) int { return d[i][j] })
	}
}

// P3.1 and P3.3 for the examples of the chapter, and for scripts in which several steps were possible.
func TestExamples(t *testing.T) {
	for _, c := range []struct {
		a, b     string
		distance int
		similar  int
		script   []api.Edit
	}{
		{"", "", 0, 1000, nil}, {"rex", "rex", 0, 1000, nil},
		{"rex", "res", 1, 666, []api.Edit{{At: 2, Length: 1, Text: "s"}}},
		{"kitten", "sitting", 3, 571, []api.Edit{{At: 0, Length: 1, Text: "s"}, {At: 4, Length: 1, Text: "i"}, {At: 6, Text: "g"}}},
		{"abc", "axcd", 2, 500, []api.Edit{{At: 1, Length: 1, Text: "x"}, {At: 3, Text: "d"}}},
		{"", "ab", 2, 0, []api.Edit{{Text: "a"}, {Text: "b"}}}, {"ab", "", 2, 0, []api.Edit{{At: 0, Length: 1}, {At: 1, Length: 1}}},
		{"ab", "ba", 2, 0, []api.Edit{{At: 0, Length: 1, Text: "b"}, {At: 1, Length: 1, Text: "a"}}},
		{"a", "aa", 1, 500, []api.Edit{{At: 0, Text: "a"}}}, {"aa", "a", 1, 500, []api.Edit{{At: 0, Length: 1}}},
		{"ab", "c", 2, 0, []api.Edit{{At: 0, Length: 1}, {At: 1, Length: 1, Text: "c"}}}, {"c", "ab", 2, 0, []api.Edit{{At: 0, Text: "a"}, {At: 0, Length: 1, Text: "b"}}},
		{"abc", "bcd", 2, 333, []api.Edit{{At: 0, Length: 1}, {At: 3, Text: "d"}}},
		{"cabb", "abbc", 2, 500, []api.Edit{{At: 0, Length: 1}, {At: 4, Text: "c"}}}, {"abbc", "cabb", 2, 500, []api.Edit{{At: 0, Text: "c"}, {At: 3, Length: 1}}},
	} {
		if d := distance(t, c.a, c.b); d != c.distance {
			t.Errorf("Distance(%q, %q): %d", c.a, c.b, d)
		}
		if s, e := editdistance.Similarity(c.a, c.b); s != c.similar || e != api.OK {
			t.Errorf("Similarity(%q, %q): %d, %d", c.a, c.b, s, e)
		}
		if l, e := editdistance.Script(c.a, c.b); !slices.Equal(l, c.script) || e != api.OK {
			t.Errorf("Script(%q, %q): %v, %d", c.a, c.b, l, e)
		}
	}
}

// P3.1 for strings and lists that are too long, also together with a bound that is negative.
func TestTooLong(t *testing.T) {
	long := strings.Repeat("a", most+1)
	for _, p := range [][2]string{{long, ""}, {"", long}, {long, long}, {long, long[1:]}, {long[1:], long}, {strings.Repeat("a", 65537), "a"}} {
		a, b := p[0], p[1]
		if d, e := editdistance.Distance(a, b); d != 0 || e != api.ErrLimit {
			t.Errorf("Distance of %d and %d bytes: %d, %d", len(a), len(b), d, e)
		}
		if l, e := editdistance.Script(a, b); len(l) != 0 || e != api.ErrLimit {
			t.Errorf("Script of %d and %d bytes: %v, %d", len(a), len(b), l, e)
		}
		for _, bound := range []int{-1, 0, 300, math.MinInt, math.MaxInt} {
			if d, is, e := editdistance.Bounded(a, b, bound); d != 0 || is || e != api.ErrLimit {
				t.Errorf("Bounded of %d and %d bytes: %d, %v, %d", len(a), len(b), d, is, e)
			}
		}
		if s, e := editdistance.Similarity(a, b); s != 0 || e != api.ErrLimit {
			t.Errorf("Similarity of %d and %d bytes: %d, %d", len(a), len(b), s, e)
		}
		if d, e := editdistance.Lists(elements(a), elements(b)); d != 0 || e != api.ErrLimit {
			t.Errorf("Lists of %d and %d elements: %d, %d", len(a), len(b), d, e)
		}
		if l, e := editdistance.Common(elements(a), elements(b)); len(l) != 0 || e != api.ErrLimit {
			t.Errorf("Common of %d and %d elements: %q, %d", len(a), len(b), l, e)
		}
	}
}

// P3.1 and P3.4 for lists of edits that the chapter's terms name.
func TestApply(t *testing.T) {
	full := strings.Repeat("a", 65536)
	for i, c := range []struct {
		a    string
		l    []api.Edit
		want string
		e    api.Errno
	}{
		{"", nil, "", api.OK}, {"abc", nil, "abc", api.OK}, {"abc", []api.Edit{}, "abc", api.OK}, {"", []api.Edit{{Text: "x"}, {}, {Text: "y\xff"}}, "xy\xff", api.OK},
		{"abc", []api.Edit{{At: 0, Text: "x"}}, "xabc", api.OK}, {"abc", []api.Edit{{At: 3, Text: "x"}}, "abcx", api.OK}, {"abc", []api.Edit{{At: 0, Length: 3}}, "", api.OK}, {"abc", []api.Edit{{At: 2, Length: 1}}, "ab", api.OK}, {"abc", []api.Edit{{At: 3}}, "abc", api.OK},
		{"abc", []api.Edit{{At: 0, Length: 1, Text: "x"}, {At: 1, Length: 1}, {At: 2, Text: "y"}, {At: 2, Length: 1, Text: "zz"}, {At: 3, Text: "!"}}, "xyzz!", api.OK},
		{"abc", []api.Edit{{At: 1, Length: 1}, {At: 0}}, "", api.ErrOrder}, {"abc", []api.Edit{{At: 0, Length: 2}, {At: 1, Length: 1}}, "", api.ErrOrder}, {"abc", []api.Edit{{At: 0, Length: 2}, {At: 2}, {At: 1}, {At: 9}}, "", api.ErrOrder}, {"abc", []api.Edit{{At: 2, Length: 0, Text: "x"}, {At: 1}}, "", api.ErrOrder},
		// The second edit is less than the end of the first one, but not less than its At.
		{"abc", []api.Edit{{At: 1, Length: 1}, {At: 1}}, "", api.ErrOrder},
		{"abc", []api.Edit{{At: 1, Length: 1}, {At: 0, Length: 4}}, "", api.ErrRange}, {"abc", []api.Edit{{At: 2, Length: 1}, {At: -1}}, "", api.ErrRange}, {"abc", []api.Edit{{At: 1}, {At: 4}, {At: 0}}, "", api.ErrRange},
		{"abc", []api.Edit{{At: -1}}, "", api.ErrRange}, {"abc", []api.Edit{{At: -1, Length: 1}}, "", api.ErrRange}, {"abc", []api.Edit{{At: 0, Length: -1}}, "", api.ErrRange}, {"abc", []api.Edit{{At: 2, Length: -1}}, "", api.ErrRange}, {"abc", []api.Edit{{At: 4}}, "", api.ErrRange}, {"abc", []api.Edit{{At: 4, Length: -1}}, "", api.ErrRange}, {"abc", []api.Edit{{At: 3, Length: 1}}, "", api.ErrRange}, {"abc", []api.Edit{{At: 0, Length: 4}}, "", api.ErrRange}, {"", []api.Edit{{Length: 1}}, "", api.ErrRange},
		{"abc", []api.Edit{{At: math.MaxInt}}, "", api.ErrRange}, {"abc", []api.Edit{{At: math.MinInt}}, "", api.ErrRange}, {"abc", []api.Edit{{Length: math.MaxInt}}, "", api.ErrRange}, {"abc", []api.Edit{{Length: math.MinInt}}, "", api.ErrRange},
		{"abc", []api.Edit{{At: 1, Length: math.MaxInt}}, "", api.ErrRange}, {"abc", []api.Edit{{At: math.MaxInt, Length: 1}}, "", api.ErrRange}, {"abc", []api.Edit{{At: math.MaxInt, Length: math.MaxInt}}, "", api.ErrRange}, {"abc", []api.Edit{{At: math.MaxInt, Length: -math.MaxInt}}, "", api.ErrRange}, {"abc", []api.Edit{{At: math.MinInt, Length: math.MinInt}}, "", api.ErrRange}, {"abc", []api.Edit{{At: -1, Length: 2}}, "", api.ErrRange},
		{full + "a", nil, "", api.ErrLimit}, {full + "a", []api.Edit{{At: -1}}, "", api.ErrLimit}, {full + "a", []api.Edit{{Length: 2}}, "", api.ErrLimit},
		{full, nil, full, api.OK}, {full, []api.Edit{{Text: "b"}}, "", api.ErrLimit}, {full, []api.Edit{{Text: "b"}, {At: 65536, Length: 1}}, "", api.ErrRange}, {full, []api.Edit{{At: 1, Text: "b"}, {At: 0}}, "", api.ErrOrder}, {full, []api.Edit{{Text: "b"}, {Length: 1}}, "b" + full[1:], api.OK}, {full, []api.Edit{{At: 65535, Length: 1, Text: "b"}}, full[1:] + "b", api.OK}, {full, []api.Edit{{Length: 65536}}, "", api.OK},
		{"", []api.Edit{{Text: full}}, full, api.OK}, {"", []api.Edit{{Text: full + "a"}}, "", api.ErrLimit}, {"", []api.Edit{{Text: full}, {Text: "a"}}, "", api.ErrLimit}, {"a", []api.Edit{{At: 1, Text: full}}, "", api.ErrLimit}, {"a", []api.Edit{{At: 0, Length: 1, Text: full}}, full, api.OK},
	} {
		given := slices.Clone(c.l)
		if s, e := editdistance.Apply(c.a, c.l); s != c.want || e != c.e {
			t.Errorf("case %d: %.20q of %d bytes, %d", i, s, len(s), e)
		}
		if !slices.Equal(given, c.l) {
			t.Errorf("case %d: the edits were changed", i)
		}
	}
}

// randomEdits returns edits that mostly fit a string of size bytes.
func randomEdits(r *rand.Rand, size int) []api.Edit {
	l := make([]api.Edit, r.Intn(4))
	end := 0
	for i := range l {
		at := end + r.Intn(max(size-end, 0)/2+1)
		l[i] = api.Edit{At: at, Length: r.Intn(max(size-at, 0) + 1), Text: randomString(r, "ab\xff", 3)}
		switch r.Intn(12) {
		case 0:
			l[i].At += r.Intn(5) - 2
		case 1:
			l[i].Length += r.Intn(5) - 2
		}
		end = l[i].At + l[i].Length
	}
	return l
}

// P3.1 and P3.4 for random edits.
func TestRandomEdits(t *testing.T) {
	r := rand.New(rand.NewSource(4))
	count := 0
	for range 20000 {
		a := randomString(r, "ab\xff", 9)
		l := randomEdits(r, len(a))
		s, e := editdistance.Apply(a, l)
		if want, f := wantedApply(a, l); s != want || e != f {
			t.Fatalf("Apply(%q, %v): %q, %d", a, l, s, e)
		}
		if e != api.OK {
			continue
		}
		count++
		size, touched := len(a), 0
		for _, edit := range l {
			size += len(edit.Text) - edit.Length
			touched += max(len(edit.Text), edit.Length)
		}
		if d := distance(t, a, s); len(s) != size || d > touched {
			t.Fatalf("Apply(%q, %v): %q, of which the distance is %d", a, l, s, d)
		}
	}
	if count < 10000 {
		t.Errorf("only %d lists of edits fit", count)
	}
}

// P3.2 and P3.8 for all short strings, and for random ones.
func TestMetric(t *testing.T) {
	all := samples.Strings("ab", 4)
	for _, p := range randomPairs(20, 40, 5) {
		all = append(all, p[0], p[1])
	}
	found := map[[2]string]int{}
	for _, a := range all {
		for _, b := range all {
			found[[2]string{a, b}] = distance(t, a, b)
		}
	}
	for pair, d := range found {
		a, b := pair[0], pair[1]
		if (d == 0) != (a == b) || d != found[[2]string{b, a}] || d != distance(t, reversed(a), reversed(b)) {
			t.Errorf("the distance of %q and %q is %d", a, b, d)
		}
		for _, c := range all {
			if d > found[[2]string{a, c}]+found[[2]string{c, b}] {
				t.Errorf("the distance of %q and %q is shorter by %q", a, b, c)
			}
		}
	}
}

// P3.8 for concatenated strings.
func TestConcatenated(t *testing.T) {
	pairs := randomPairs(4000, 20, 6)
	for i, p := range pairs[1:] {
		q := pairs[i]
		if d, sum := distance(t, p[0]+q[0], p[1]+q[1]), distance(t, p[0], p[1])+distance(t, q[0], q[1]); d > sum {
			t.Errorf("%q and %q: %d, more than %d", p, q, d, sum)
		}
	}
}

// P3.2 for lists.
func TestMetricOfLists(t *testing.T) {
	all := lists()
	for _, a := range all {
		for i, b := range all {
			d := listDistance(t, a, b)
			if want := table(a, b)[len(a)][len(b)]; d != want || (d == 0) != slices.Equal(a, b) || d != listDistance(t, b, a) {
				t.Errorf("Lists(%q, %q): %d, not %d", a, b, d, want)
			}
			c := all[(i*7+3)%len(all)]
			if d > listDistance(t, a, c)+listDistance(t, c, b) {
				t.Errorf("the distance of %q and %q is shorter by %q", a, b, c)
			}
		}
	}
}

// P3.1 and P3.6 among others for the example of the chapter.
func TestCommon(t *testing.T) {
	for i, c := range []struct{ a, b, want []string }{
		{nil, nil, nil}, {nil, []string{"a"}, nil}, {[]string{"a"}, nil, nil}, {[]string{""}, []string{""}, []string{""}}, {[]string{""}, []string{"a"}, nil},
		{[]string{"a", "b", "c"}, []string{"b", "a", "c"}, []string{"a", "c"}}, {[]string{"b", "a", "c"}, []string{"a", "b", "c"}, []string{"a", "c"}}, {[]string{"b", "a"}, []string{"a", "b"}, []string{"a"}},
		{[]string{"b", "", "a"}, []string{"", "b", "a"}, []string{"", "a"}}, {[]string{"ab", "a"}, []string{"a", "ab"}, []string{"a"}}, {[]string{"\xff", "z"}, []string{"z", "\xff"}, []string{"z"}},
		{[]string{"a", "a", "b"}, []string{"a", "b", "a"}, []string{"a", "a"}}, {[]string{"c", "a", "b", "d"}, []string{"a", "c", "d", "b"}, []string{"a", "b"}},
		// The least first element is not part of a longest one.
		{[]string{"b", "c", "a"}, []string{"a", "b", "c"}, []string{"b", "c"}},
	} {
		if l, e := editdistance.Common(c.a, c.b); !slices.Equal(l, c.want) || e != api.OK {
			t.Errorf("case %d: %q, %d", i, l, e)
		}
	}
}

// checkCommon checks the common subsequence of a and b but for whether a longer or less one is there. P3.6.
func checkCommon(t *testing.T, a, b []string) []string {
	t.Helper()
	given := [][]string{slices.Clone(a), slices.Clone(b)}
	l, e := editdistance.Common(a, b)
	if e != api.OK || !isSubsequence(l, a) || !isSubsequence(l, b) {
		t.Errorf("Common(%q, %q): %q, %d", a, b, l, e)
	}
	if d := listDistance(t, a, b); d > len(a)+len(b)-2*len(l) || d < max(len(a), len(b))-len(l) {
		t.Errorf("Common(%q, %q): %q, but the distance is %d", a, b, l, d)
	}
	if !slices.Equal(a, given[0]) || !slices.Equal(b, given[1]) {
		t.Error("the lists were changed")
	}
	return l
}

// P3.1 and P3.6 for all short lists of letters, and random ones.
func TestCommonOfAll(t *testing.T) {
	all := lists()
	for _, a := range all {
		for _, b := range all {
			if l, want := checkCommon(t, a, b), wantedCommon(a, b); !slices.Equal(l, want) {
				t.Errorf("Common(%q, %q): %q, not %q", a, b, l, want)
			}
		}
	}
	r := rand.New(rand.NewSource(7))
	for range 300 {
		a, b := randomList(r, 11), randomList(r, 20)
		if l, want := checkCommon(t, a, b), wantedCommon(a, b); !slices.Equal(l, want) {
			t.Errorf("Common(%q, %q): %q, not %q", a, b, l, want)
		}
	}
}

// P3.1 and P3.6 for lists of 256 elements.
func TestLongLists(t *testing.T) {
	same := slices.Repeat([]string{"a"}, most)
	turned := slices.Repeat([]string{"a", "b"}, most/2)
	for i, c := range []struct {
		a, b, common []string
		distance     int
	}{
		{same, same, same, 0}, {same, nil, nil, most}, {same, same[:100], same[:100], 156}, {turned, same, same[:128], 128}, {turned, turned[1:], turned[1:], 1},
		{append([]string{"b"}, turned[1:]...), turned, turned[1:], 1},
		// What begins with b is as long.
		{turned, append(slices.Clone(turned[1:]), "a"), turned[:255], 2},
	} {
		for _, p := range [][2][]string{{c.a, c.b}, {c.b, c.a}} {
			if l := checkCommon(t, p[0], p[1]); !slices.Equal(l, c.common) {
				t.Errorf("case %d: %q", i, l)
			}
			if d := listDistance(t, p[0], p[1]); d != c.distance {
				t.Errorf("case %d: %d", i, d)
			}
		}
	}
}

// P3.1: results are new memory.
func TestResultsAreNew(t *testing.T) {
	first, _ := editdistance.Common([]string{"a", "b"}, []string{"a", "b"})
	script, _ := editdistance.Script("ab", "c")
	first[0], script[0].Text = "x", "x"
	if l, _ := editdistance.Common([]string{"a", "b"}, []string{"a", "b"}); l[0] != "a" {
		t.Error("Common shares its result")
	}
	if l, _ := editdistance.Script("ab", "c"); l[0].Text != "" {
		t.Error("Script shares its result")
	}
}
