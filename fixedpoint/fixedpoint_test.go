package fixedpoint_test

import (
	"math"
	"math/big"
	"math/rand"
	"regexp"
	"slices"
	"strings"
	"testing"

	"apograph/api"
	"apograph/fixedpoint"
	"apograph/samples"
)

// The functions down to the samples restate the chapter's definitions in another way than the package does: with a regular expression, and with fractions of any size.

const (
	most     = 1 << 30
	infinite = 10000
)

// The last zero of a fraction, and zeros in front of a number, are excluded here; the minus sign before 0 is not.
var textForm = regexp.MustCompile(`^-?(0|[1-9][0-9]*)(\.[0-9]{0,2}[1-9])?pt$`)

func fraction(n, den int) *big.Rat { return big.NewRat(int64(n), int64(den)) }

// ratio returns a * b / c.
func ratio(a, b, c int) *big.Rat {
	return fraction(a, 1).Mul(fraction(a, 1), fraction(b, c))
}

// floor returns the greatest integer that is at most r.
func floor(r *big.Rat) *big.Int {
	return new(big.Int).Div(r.Num(), r.Denom())
}

func isLength(n int) bool { return -most <= n && n <= most }

func isNatural(n int) bool { return 0 <= n && n <= most }

func wantedCheck(n int) api.Errno {
	if !isLength(n) {
		return api.ErrRange
	}
	return api.OK
}

func wantedParse(s string) (int, api.Errno) {
	if len(s) > 65536 {
		return 0, api.ErrLimit
	}
	if !textForm.MatchString(s) || s == "-0pt" {
		return 0, api.ErrSyntax
	}
	r, _ := new(big.Rat).SetString(strings.TrimSuffix(s, "pt"))
	n := floor(r.Mul(r, fraction(1000, 1)))
	if !n.IsInt64() || !isLength(int(n.Int64())) {
		return 0, api.ErrRange
	}
	return int(n.Int64()), api.OK
}

func wantedPrint(n int) (string, api.Errno) {
	if !isLength(n) {
		return "", api.ErrRange
	}
	s := fraction(n, 1000).FloatString(3)
	return strings.TrimSuffix(strings.TrimRight(s, "0"), ".") + "pt", api.OK
}

func wantedSum(l []int) (int, api.Errno) {
	sum := new(big.Int)
	for _, n := range l {
		if len(l) <= 4096 && !isLength(n) {
			return 0, api.ErrRange
		}
		sum.Add(sum, big.NewInt(int64(n)))
	}
	if len(l) > 4096 || !isLength(int(sum.Int64())) {
		return 0, api.ErrLimit
	}
	return int(sum.Int64()), api.OK
}

func wantedScale(n, num, den int) (int, api.Errno) {
	if !isLength(n) || !isNatural(num) || !isNatural(den) || den == 0 {
		return 0, api.ErrRange
	}
	r := ratio(n, num, den)
	r.Add(r, fraction(n, 2*max(n, -n, 1)))
	// Half of 1 was added with the sign of n, so that what is left is to cut the fraction off.
	q := new(big.Int).Quo(r.Num(), r.Denom())
	if !q.IsInt64() || !isLength(int(q.Int64())) {
		return 0, api.ErrLimit
	}
	return int(q.Int64()), api.OK
}

func wantedBadness(change, total int) int {
	c := new(big.Int).Abs(big.NewInt(int64(change)))
	if c.Cmp(big.NewInt(most)) > 0 {
		c.SetInt64(most)
	}
	switch {
	case c.Sign() == 0:
		return 0
	case total <= 0:
		return infinite
	}
	t := big.NewInt(int64(min(total, most)))
	three := big.NewInt(3)
	q := new(big.Int).Mul(big.NewInt(100), c.Exp(c, three, nil))
	q.Quo(q, t.Exp(t, three, nil))
	if q.Cmp(big.NewInt(infinite)) > 0 {
		return infinite
	}
	return int(q.Int64())
}

func wantedDistribute(total int, parts []int) ([]int, api.Errno) {
	if len(parts) > 4096 {
		return nil, api.ErrLimit
	}
	if !isLength(total) || slices.ContainsFunc(parts, func(n int) bool { return !isNatural(n) }) {
		return nil, api.ErrRange
	}
	sums := []int{0}
	for i, part := range parts {
		sums = append(sums, sums[i]+part)
	}
	whole := sums[len(parts)]
	switch {
	case whole > most:
		return nil, api.ErrLimit
	case whole == 0:
		return nil, api.ErrEmpty
	}
	var l []int
	for i := range parts {
		above, below := floor(ratio(total, sums[i+1], whole)), floor(ratio(total, sums[i], whole))
		l = append(l, int(above.Sub(above, below).Int64()))
	}
	return l, api.OK
}

// edges returns the numbers at which something changes, and their neighbours.
func edges() []int {
	l := []int{math.MinInt, math.MinInt + 1, math.MaxInt - 1, math.MaxInt, 1 << 31, -1 << 31, 1 << 32, 1 << 62, -1 << 62}
	for _, n := range []int{-most, -most / 2, -1000, 0, 1000, 1500, 12500, most / 2, most} {
		l = append(l, n-1, n, n+1)
	}
	return l
}

// randomLengths returns n lengths of all sizes; the same ones for a seed.
func randomLengths(n int, seed int64) []int {
	r := rand.New(rand.NewSource(seed))
	l := make([]int, n)
	for i := range l {
		size := 1 << r.Intn(31)
		l[i] = r.Intn(2*size+1) - size
	}
	return l
}

func randomSizes(n int, seed int64) []int {
	l := randomLengths(n, seed)
	for i := range l {
		l[i] = max(l[i], -l[i])
	}
	return l
}

func numbers() []int { return append(edges(), randomLengths(20000, 1)...) }

func repeated(n, count int) []int { return slices.Repeat([]int{n}, count) }

// P2.1 for Check.
func TestCheck(t *testing.T) {
	for _, n := range numbers() {
		if e := fixedpoint.Check(n); e != wantedCheck(n) {
			t.Errorf("Check(%d): %d", n, e)
		}
	}
	for _, n := range []int{-most, -1, 0, 1, most} {
		if fixedpoint.Check(n) != api.OK {
			t.Errorf("%d is a length", n)
		}
	}
	for _, n := range []int{-most - 1, most + 1, math.MinInt, math.MaxInt} {
		if fixedpoint.Check(n) != api.ErrRange {
			t.Errorf("%d is no length", n)
		}
	}
}

// P2.1 for Print, and the first half of P2.2.
func TestPrint(t *testing.T) {
	for _, n := range numbers() {
		s, e := fixedpoint.Print(n)
		if want, f := wantedPrint(n); s != want || e != f {
			t.Errorf("Print(%d): %q, %d", n, s, e)
		}
		if e != api.OK {
			continue
		}
		if back, f := fixedpoint.Parse(s); back != n || f != api.OK {
			t.Errorf("%d has the text %q, which is parsed as %d, %d", n, s, back, f)
		}
	}
}

var texts = []struct {
	n int
	s string
}{
	{0, "0pt"}, {1, "0.001pt"}, {-1, "-0.001pt"}, {10, "0.01pt"}, {100, "0.1pt"}, {101, "0.101pt"}, {110, "0.11pt"}, {999, "0.999pt"},
	{1000, "1pt"}, {1001, "1.001pt"}, {-1010, "-1.01pt"}, {10000, "10pt"}, {100100, "100.1pt"}, {-20000000, "-20000pt"},
	{12500, "12.5pt"}, {-250, "-0.25pt"},
	{most, "1073741.824pt"}, {-most, "-1073741.824pt"}, {most - 1, "1073741.823pt"}, {-most + 1, "-1073741.823pt"},
}

// P2.1 and P2.2 for texts, among them the examples of the chapter.
func TestTexts(t *testing.T) {
	for _, c := range texts {
		if s, e := fixedpoint.Print(c.n); s != c.s || e != api.OK {
			t.Errorf("Print(%d): %q, %d", c.n, s, e)
		}
		if n, e := fixedpoint.Parse(c.s); n != c.n || e != api.OK {
			t.Errorf("Parse(%q): %d, %d", c.s, n, e)
		}
	}
}

// P2.1 for Parse, and the second half of P2.2.
func TestParse(t *testing.T) {
	bodies := samples.Strings("019.-", 6)
	candidates := append(bodies, samples.Strings("0.-pt+ \xff", 4)...)
	for _, s := range bodies {
		candidates = append(candidates, s+"pt")
	}
	for _, s := range candidates {
		n, e := fixedpoint.Parse(s)
		if want, f := wantedParse(s); n != want || e != f {
			t.Errorf("Parse(%q): %d, %d", s, n, e)
		}
		if e != api.OK {
			continue
		}
		if back, f := fixedpoint.Print(n); back != s || f != api.OK {
			t.Errorf("%q is parsed as %d, which has the text %q, %d", s, n, back, f)
		}
	}
}

// P2.1 and P2.2 for what is no text.
func TestParseErrors(t *testing.T) {
	for _, s := range []string{
		"", "pt", "-", "-pt", ".", ".pt", "-.pt", "1", "0", "-1", "1.5", "12.5p", "12.5t", "1PT", "1Pt", "1 pt", " 1pt", "1pt ", "1ptpt", "1ppt", "pt1", "1pt1",
		"-0pt", "00pt", "-00pt", "01pt", "-01pt", "00.5pt", "0000000000000000000000001pt", "1.pt", ".5pt", "-.5pt", "-0.0pt", "0.0pt", "0.000pt",
		"1.0pt", "1.50pt", "1.500pt", "1.5000pt", "1.2345pt", "1.0001pt", "1.2.3pt", "1..2pt", "--1pt", "1-pt", "1.-5pt", "1.5-pt", "+1pt", "1,5pt", "1e3pt", "0x1pt", "1_0pt",
		"apt", "1.apt", "1.1/pt", "1.1:pt", "1/pt", "1:pt", "\x001pt", "\u0661pt", "\uff11pt", "1.\u0661pt", "1\xb5pt",
		"1073741.8250pt", "99999999999999999999.0pt", "099999999999999999999pt", "99999999999999999999", "9999999999999999999xpt",
		strings.Repeat("x", 65536), strings.Repeat("0", 65534) + "pt", strings.Repeat("1", 65536), "1." + strings.Repeat("1", 65532) + "pt",
	} {
		if n, e := fixedpoint.Parse(s); n != 0 || e != api.ErrSyntax {
			t.Errorf("Parse(%.40q): %d, %d, not ErrSyntax", s, n, e)
		}
	}
	for _, s := range []string{
		"1073741.825pt", "-1073741.825pt", "1073741.9pt", "1073742pt", "-1073742pt", "1073742.001pt", "1073741824pt", "-1073741824pt", "10737418240.1pt", "2147483.648pt", "4294967.296pt", "-4294967.296pt", "4294967.297pt",
		"9223372036854775807pt", "9223372036854775.808pt", "18446744073709551.616pt", "18446744073709551.617pt", "-18446744073709551.616pt", "18446744073709551617pt", "99999999999999999999pt",
		"1" + strings.Repeat("0", 65533) + "pt", "1" + strings.Repeat("0", 65531) + ".1pt", "-" + strings.Repeat("9", 65533) + "pt",
	} {
		if n, e := fixedpoint.Parse(s); n != 0 || e != api.ErrRange {
			t.Errorf("Parse(%.40q): %d, %d, not ErrRange", s, n, e)
		}
	}
	for _, s := range []string{strings.Repeat("x", 65537), "1" + strings.Repeat("0", 65534) + "pt", strings.Repeat("0", 65536) + "1pt"} {
		if n, e := fixedpoint.Parse(s); n != 0 || e != api.ErrLimit {
			t.Errorf("Parse(%.40q): %d, %d, not ErrLimit", s, n, e)
		}
	}
}

// P2.1 for Sum.
func TestSum(t *testing.T) {
	for i, c := range []struct {
		l    []int
		want int
		e    api.Errno
	}{
		{nil, 0, api.OK}, {[]int{}, 0, api.OK}, {[]int{0}, 0, api.OK}, {[]int{-1}, -1, api.OK}, {[]int{1, -3, 5}, 3, api.OK},
		{[]int{most}, most, api.OK}, {[]int{-most}, -most, api.OK}, {[]int{most, -most}, 0, api.OK},
		{[]int{most, 1, -1}, most, api.OK}, {[]int{-most, -1, 1}, -most, api.OK}, {[]int{most, most, most, -most, -most}, most, api.OK},
		{[]int{most, 1}, 0, api.ErrLimit}, {[]int{-most, -1}, 0, api.ErrLimit}, {[]int{1, -most, -1, -1}, 0, api.ErrLimit},
		{[]int{most + 1}, 0, api.ErrRange}, {[]int{-most - 1}, 0, api.ErrRange}, {[]int{most + 1, -1}, 0, api.ErrRange}, {[]int{1, -most - 1, 1}, 0, api.ErrRange},
		{[]int{most, 1, most + 1}, 0, api.ErrRange}, {[]int{math.MaxInt, math.MaxInt, 2}, 0, api.ErrRange}, {[]int{math.MinInt, math.MinInt}, 0, api.ErrRange},
		{repeated(3, 4096), 12288, api.OK}, {repeated(most>>12, 4096), most, api.OK}, {repeated(most, 4096), 0, api.ErrLimit}, {repeated(-most, 4096), 0, api.ErrLimit},
		{repeated(0, 4097), 0, api.ErrLimit}, {repeated(most+1, 4097), 0, api.ErrLimit}, {append(repeated(0, 4095), most+1), 0, api.ErrRange},
	} {
		if n, e := fixedpoint.Sum(c.l); n != c.want || e != c.e {
			t.Errorf("case %d: %d, %d", i, n, e)
		}
	}
}

// P2.1 and P2.3 for random lists: the wanted sum does not depend on the order, and is that of both parts.
func TestSumOrderAndParts(t *testing.T) {
	r := rand.New(rand.NewSource(2))
	lengths := append(randomLengths(2000, 3), most, -most, most, -most, most+1)
	for range 3000 {
		l := make([]int, r.Intn(12))
		for i := range l {
			l[i] = lengths[r.Intn(len(lengths))]
		}
		sum, e := fixedpoint.Sum(l)
		if want, f := wantedSum(l); sum != want || e != f {
			t.Fatalf("Sum(%v): %d, %d", l, sum, e)
		}
		mixed := slices.Clone(l)
		r.Shuffle(len(mixed), func(i, j int) { mixed[i], mixed[j] = mixed[j], mixed[i] })
		if other, f := fixedpoint.Sum(mixed); other != sum || f != e {
			t.Fatalf("Sum(%v): %d, %d; Sum(%v): %d, %d", l, sum, e, mixed, other, f)
		}
		cut := r.Intn(len(l) + 1)
		first, f := fixedpoint.Sum(l[:cut])
		second, g := fixedpoint.Sum(l[cut:])
		if f != api.OK || g != api.OK {
			continue
		}
		if both, h := fixedpoint.Sum([]int{first, second}); both != sum || h != e {
			t.Fatalf("Sum(%v) in two parts: %d, %d", l, both, h)
		}
	}
}

// P2.1 for Scale, with halves of both signs and the examples of the chapter.
func TestScale(t *testing.T) {
	for i, c := range []struct {
		n, num, den, want int
		e                 api.Errno
	}{
		{1000, 1, 3, 333, api.OK}, {1000, 2, 3, 667, api.OK}, {-1000, 1, 3, -333, api.OK}, {-1000, 2, 3, -667, api.OK},
		{1, 1, 2, 1, api.OK}, {-1, 1, 2, -1, api.OK}, {3, 1, 2, 2, api.OK}, {-3, 1, 2, -2, api.OK}, {5, 3, 10, 2, api.OK}, {-5, 3, 10, -2, api.OK},
		{1, 1, 3, 0, api.OK}, {-1, 1, 3, 0, api.OK}, {1, most/2 - 1, most, 0, api.OK}, {1, most / 2, most, 1, api.OK}, {-1, most / 2, most, -1, api.OK},
		{0, 0, 1, 0, api.OK}, {5, 0, 7, 0, api.OK}, {-5, 0, 1, 0, api.OK}, {0, most, 1, 0, api.OK},
		{most, most, most, most, api.OK}, {-most, most, most, -most, api.OK}, {most, most - 1, most, most - 1, api.OK}, {1, most, 1, most, api.OK}, {-1, most, 1, -most, api.OK},
		{most, 1, 1, most, api.OK}, {most, most, most - 1, 0, api.ErrLimit}, {-most, most, most - 1, 0, api.ErrLimit}, {most, most, 1, 0, api.ErrLimit}, {most, 2, 1, 0, api.ErrLimit}, {-most, 2, 1, 0, api.ErrLimit},
		// The quotients are half of 1 above MaxLength, and somewhat less.
		{2*(most/3) + 1, 3, 2, 0, api.ErrLimit}, {-2*(most/3) - 1, 3, 2, 0, api.ErrLimit}, {most - 1, most, most - 1, most, api.OK},
		{1, -1, 1, 0, api.ErrRange}, {1, 1, 0, 0, api.ErrRange}, {1, 1, -1, 0, api.ErrRange}, {0, 0, 0, 0, api.ErrRange}, {-1, -1, -1, 0, api.ErrRange},
		{most + 1, 0, 1, 0, api.ErrRange}, {-most - 1, 0, 1, 0, api.ErrRange}, {0, most + 1, 1, 0, api.ErrRange}, {0, 1, most + 1, 0, api.ErrRange}, {most + 1, most, 1, 0, api.ErrRange},
		{math.MinInt, 1, 1, 0, api.ErrRange}, {math.MaxInt, 1, 1, 0, api.ErrRange}, {1, math.MinInt, 1, 0, api.ErrRange}, {1, 1, math.MinInt, 0, api.ErrRange}, {1, math.MaxInt, math.MaxInt, 0, api.ErrRange},
	} {
		if n, e := fixedpoint.Scale(c.n, c.num, c.den); n != c.want || e != c.e {
			t.Errorf("case %d, Scale(%d, %d, %d): %d, %d", i, c.n, c.num, c.den, n, e)
		}
	}
}

func checkScale(t *testing.T, n, num, den int) {
	t.Helper()
	scaled, e := fixedpoint.Scale(n, num, den)
	if want, f := wantedScale(n, num, den); scaled != want || e != f {
		t.Errorf("Scale(%d, %d, %d): %d, %d", n, num, den, scaled, e)
	}
	if e != api.OK {
		return
	}
	difference := ratio(n, num, den)
	difference.Sub(difference, fraction(scaled, 1))
	if difference.Abs(difference).Cmp(fraction(1, 2)) > 0 {
		t.Errorf("Scale(%d, %d, %d): %d is more than half of 1 from the quotient", n, num, den, scaled)
	}
	if opposite, f := fixedpoint.Scale(-n, num, den); opposite != -scaled || f != api.OK || scaled > 0 && n < 0 || scaled < 0 && n > 0 {
		t.Errorf("Scale(%d, %d, %d): %d, and %d, %d with the other sign", n, num, den, scaled, opposite, f)
	}
}

// P2.1 and P2.4 for all combinations of small and of extreme numbers, and random ones.
func TestScaleQuotients(t *testing.T) {
	for n := -12; n <= 12; n++ {
		for num := range 9 {
			for den := range 9 {
				checkScale(t, n, num, den)
			}
		}
	}
	for _, n := range edges() {
		for _, num := range edges() {
			for _, den := range edges() {
				checkScale(t, n, num, den)
			}
		}
	}
	lengths, nums, dens := randomLengths(20000, 4), randomSizes(20000, 5), randomSizes(20000, 6)
	for i := range lengths {
		checkScale(t, lengths[i], nums[i], dens[i])
	}
}

// P2.4 for equal numbers.
func TestScaleByEqualNumbers(t *testing.T) {
	sizes := append(randomSizes(20000, 7), 1, 2, most-1, most)
	for i, n := range append(randomLengths(20000, 8), most, -most, most, -most) {
		by := max(sizes[i], 1)
		if scaled, e := fixedpoint.Scale(n, by, by); scaled != n || e != api.OK {
			t.Errorf("Scale(%d, %d, %d): %d, %d", n, by, by, scaled, e)
		}
	}
}

// P2.1 for Badness, among others the examples of the chapter.
func TestBadness(t *testing.T) {
	for i, c := range []struct{ change, total, want int }{
		{1000, 2000, 12}, {-2000, 1000, 800}, {0, 0, 0}, {0, 1, 0}, {0, -5, 0}, {0, math.MinInt, 0}, {1, 0, infinite}, {-1, 0, infinite}, {1, -1, infinite}, {1, math.MinInt, infinite}, {most, -most, infinite},
		{1, 1, 100}, {-1, 1, 100}, {7, 7, 100}, {most, most, 100}, {most - 1, most, 99}, {most, most - 1, 100}, {most - 1, most - 1, 100}, {1, 10, 0}, {1, 4, 1}, {1, 5, 0}, {3, 10, 2}, {1, most, 0}, {most, 1, infinite},
		{46, 10, 9733}, {47, 10, infinite}, {5, 1, infinite}, {4, 1, 6400}, {10, 1, infinite}, {most, most >> 1, 800}, {most, most >> 2, 6400}, {most, most >> 3, infinite},
		{most + 1, most, 100}, {most, most + 1, 100}, {most + 1, most + 1, 100}, {1 << 62, 1 << 61, 100}, {math.MinInt, most, 100}, {math.MinInt, math.MaxInt, 100}, {math.MaxInt, most >> 1, 800}, {most >> 1, math.MaxInt, 12}, {math.MinInt + 1, most >> 2, 6400},
	} {
		if b := fixedpoint.Badness(c.change, c.total); b != c.want {
			t.Errorf("case %d, Badness(%d, %d): %d", i, c.change, c.total, b)
		}
	}
}

func checkBadness(t *testing.T, change, total int) {
	t.Helper()
	if b := fixedpoint.Badness(change, total); b != wantedBadness(change, total) {
		t.Errorf("Badness(%d, %d): %d", change, total, b)
	}
}

// stepsOfBadness returns the least changes for which the badness is at least 1, 2, 99 to 101, 9999 and 10000, with their neighbours, for a positive total.
func stepsOfBadness(total int) []int {
	var l []int
	for _, b := range []int{1, 2, 99, 100, 101, 9999, 10000} {
		c := int(math.Cbrt(float64(b)/100) * float64(total))
		l = append(l, c-1, c, c+1, c+2)
	}
	return l
}

// P2.1 for Badness, for all small numbers, extreme ones, random ones, and where the badness changes.
func TestBadnessOfSamples(t *testing.T) {
	for change := -60; change <= 60; change++ {
		for total := -3; total <= 40; total++ {
			checkBadness(t, change, total)
		}
	}
	for _, change := range edges() {
		for _, total := range edges() {
			checkBadness(t, change, total)
		}
	}
	changes := randomLengths(20000, 9)
	for i, total := range randomSizes(20000, 10) {
		checkBadness(t, changes[i], total)
		for _, change := range stepsOfBadness(total) {
			checkBadness(t, change, total)
		}
	}
}

// P2.5.
func TestBadnessGrows(t *testing.T) {
	changes := append(randomLengths(5000, 11), edges()...)
	totals := append(randomLengths(5000, 12), edges()...)
	slices.Sort(totals)
	for i, change := range changes {
		if change == math.MinInt {
			continue
		}
		size := max(change, -change)
		at := i % len(totals)
		total, next := totals[at], totals[min(at+1, len(totals)-1)]
		b := fixedpoint.Badness(change, total)
		if fixedpoint.Badness(-change, total) != b {
			t.Errorf("Badness(%d, %d) depends on the sign", change, total)
		}
		if size < math.MaxInt && fixedpoint.Badness(size+1, total) < b || size < most && fixedpoint.Badness(2*size, total) < b {
			t.Errorf("Badness(%d, %d) decreases with the change", size, total)
		}
		if fixedpoint.Badness(change, next) > b {
			t.Errorf("Badness(%d, %d) is greater than with %d", change, next, total)
		}
		for _, unit := range []int{2, 3, 7, 1000} {
			if isLength(change) && isLength(total) && isLength(change*unit) && isLength(total*unit) && fixedpoint.Badness(change*unit, total*unit) != b {
				t.Errorf("Badness(%d, %d) changes with the unit %d", change, total, unit)
			}
		}
	}
}

// P2.1 for Distribute, among others the examples of the chapter.
func TestDistribute(t *testing.T) {
	for i, c := range []struct {
		total int
		parts []int
		want  []int
		e     api.Errno
	}{
		{100, []int{1, 1, 1}, []int{33, 33, 34}, api.OK}, {-100, []int{1, 1, 1}, []int{-34, -33, -33}, api.OK},
		{7, []int{0, 2, 0, 1}, []int{0, 4, 0, 3}, api.OK}, {-7, []int{0, 2, 0, 1}, []int{0, -5, 0, -2}, api.OK}, {1, []int{1, 1}, []int{0, 1}, api.OK}, {-1, []int{1, 1}, []int{-1, 0}, api.OK}, {-1, []int{1, 0}, []int{-1, 0}, api.OK},
		{0, []int{5}, []int{0}, api.OK}, {0, []int{0, 1, 0}, []int{0, 0, 0}, api.OK}, {9, []int{3, 0}, []int{9, 0}, api.OK}, {-9, []int{0, 3}, []int{0, -9}, api.OK},
		{most, []int{most}, []int{most}, api.OK}, {-most, []int{most}, []int{-most}, api.OK}, {-most, []int{most - 1, 1}, []int{-most + 1, -1}, api.OK}, {most, []int{1, 1}, []int{most / 2, most / 2}, api.OK}, {1, []int{most - 1, 1}, []int{0, 1}, api.OK},
		{5, nil, nil, api.ErrEmpty}, {5, []int{}, nil, api.ErrEmpty}, {0, nil, nil, api.ErrEmpty}, {-5, []int{0}, nil, api.ErrEmpty}, {5, []int{0, 0}, nil, api.ErrEmpty}, {5, make([]int, 4096), nil, api.ErrEmpty},
		{5, []int{1, -1}, nil, api.ErrRange}, {5, []int{-1, 2}, nil, api.ErrRange}, {5, []int{most + 1}, nil, api.ErrRange}, {5, []int{most, most, -1}, nil, api.ErrRange}, {5, []int{math.MinInt}, nil, api.ErrRange}, {5, []int{math.MaxInt, math.MaxInt, 3}, nil, api.ErrRange},
		{most + 1, []int{0}, nil, api.ErrRange}, {-most - 1, nil, nil, api.ErrRange}, {most + 1, []int{most, 1}, nil, api.ErrRange}, {math.MinInt, []int{1}, nil, api.ErrRange}, {math.MaxInt, []int{1}, nil, api.ErrRange},
		{5, []int{most, 1}, nil, api.ErrLimit}, {5, repeated(most, 4096), nil, api.ErrLimit},
		{5, make([]int, 4097), nil, api.ErrLimit}, {5, repeated(1, 4097), nil, api.ErrLimit}, {most + 1, repeated(-1, 4097), nil, api.ErrLimit},
		{4096, repeated(1, 4096), repeated(1, 4096), api.OK}, {-8192, repeated(most>>12, 4096), repeated(-2, 4096), api.OK},
	} {
		if l, e := fixedpoint.Distribute(c.total, c.parts); !slices.Equal(l, c.want) || e != c.e {
			t.Errorf("case %d: %v, %d", i, l, e)
		}
	}
}

func checkDistribution(t *testing.T, total int, parts []int) {
	t.Helper()
	given := slices.Clone(parts)
	l, e := fixedpoint.Distribute(total, parts)
	if want, f := wantedDistribute(total, parts); !slices.Equal(l, want) || e != f {
		t.Fatalf("Distribute(%d, %v): %v, %d", total, parts, l, e)
	}
	if !slices.Equal(parts, given) {
		t.Fatalf("Distribute(%d, %v) has changed the parts to %v", total, given, parts)
	}
	if e != api.OK {
		return
	}
	whole, _ := wantedSum(parts)
	if sum, f := fixedpoint.Sum(l); sum != total || f != api.OK {
		t.Fatalf("Distribute(%d, %v): %v adds up to %d", total, parts, l, sum)
	}
	for i, part := range parts {
		difference := ratio(total, part, whole)
		difference.Sub(difference, fraction(l[i], 1))
		if difference.Abs(difference).Cmp(fraction(1, 1)) >= 0 || part == 0 && l[i] != 0 {
			t.Fatalf("Distribute(%d, %v): the element %d, %d, is not in proportion", total, parts, i, l[i])
		}
	}
}

// P2.1 and P2.6 for all lists of three small parts, and random ones.
func TestDistributionsInProportion(t *testing.T) {
	for total := -10; total <= 10; total++ {
		for code := range 5 * 5 * 5 {
			checkDistribution(t, total, []int{code % 5, code / 5 % 5, code / 25})
		}
	}
	r := rand.New(rand.NewSource(13))
	sizes := append(randomSizes(2000, 14), repeated(0, 200)...)
	for _, total := range append(randomLengths(3000, 15), edges()...) {
		parts := make([]int, r.Intn(10))
		for i := range parts {
			parts[i] = sizes[r.Intn(len(sizes))] >> r.Intn(8)
		}
		checkDistribution(t, total, parts)
	}
}
