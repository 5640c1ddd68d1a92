package charset_test

import (
	"cmp"
	"math/rand"
	"slices"
	"strings"
	"testing"

	"apograph/api"
	"apograph/charset"
	"apograph/samples"
)

// The tables and functions down to the samples restate the chapter's definitions in another way than the package does.

const (
	letters   = "abcdefghijklmnopqrstuvwxyzABCDEFGHIJKLMNOPQRSTUVWXYZ"
	marks     = "^~%"
	digits    = "0123456789"
	joins     = "'"
	puncts    = ".,;:!?()-"
	wordChars = letters + marks + digits + joins
	alphabet  = wordChars + puncts + " "
)

func isOneOf(c byte, set string) bool { return strings.IndexByte(set, c) >= 0 }

func consistsOf(s, set string) bool { return strings.Trim(s, set) == "" }

func markStandsRight(s string, i int) bool {
	if !isOneOf(s[i], marks) || i == 0 {
		return false
	}
	return isOneOf(s[i-1], letters) || markStandsRight(s, i-1)
}

func allMarksStandRight(s string) bool {
	for i := range len(s) {
		if isOneOf(s[i], marks) && !markStandsRight(s, i) {
			return false
		}
	}
	return true
}

func wantedCheck(s string) api.Errno {
	switch {
	case len(s) > 65536:
		return api.ErrLimit
	case !consistsOf(s, alphabet) || !allMarksStandRight(s):
		return api.ErrChar
	}
	return api.OK
}

func wantedWord(s string) bool {
	return 1 <= len(s) && len(s) <= 64 && consistsOf(s, wordChars) && isOneOf(s[0], letters+digits) && allMarksStandRight(s)
}

func wantedName(s string) bool {
	return 1 <= len(s) && len(s) <= 16 && consistsOf(s, letters+digits)
}

func wantedFold(s string) string {
	for i := range 26 {
		s = strings.ReplaceAll(s, letters[26+i:27+i], letters[i:i+1])
	}
	return s
}

func wantedPlain(s string) string {
	return strings.NewReplacer("^", "", "~", "", "%", "").Replace(s)
}

func wantedLetters(s string) int {
	n := 0
	for _, c := range letters + digits {
		n += strings.Count(s, string(c))
	}
	return n
}

func wantedClusters(s string) []string {
	var l []string
	for i := range len(s) {
		if markStandsRight(s, i) {
			l[len(l)-1] += s[i : i+1]
		} else {
			l = append(l, s[i:i+1])
		}
	}
	return l
}

func wantedOrder(a, b string) int {
	p, q := wantedPlain(a), wantedPlain(b)
	return cmp.Or(cmp.Compare(wantedFold(p), wantedFold(q)), cmp.Compare(p, q), cmp.Compare(a, b))
}

// randomStrings returns n strings of at most most of the characters; the same ones in each run.
func randomStrings(n, most int, chars string) []string {
	r := rand.New(rand.NewSource(1))
	l := make([]string, n)
	for i := range l {
		b := make([]byte, r.Intn(most+1))
		for j := range b {
			b[j] = chars[r.Intn(len(chars))]
		}
		l[i] = string(b)
	}
	return l
}

func allBytes() string {
	b := make([]byte, 256)
	for i := range b {
		b[i] = byte(i)
	}
	return string(b)
}

// sampleTexts returns short strings of each kind of characters, and longer ones of the alphabet, of words' characters, and of any bytes.
func sampleTexts() []string {
	l := samples.Strings("aZ^~1'. <\xff", 4)
	l = append(l, randomStrings(2000, 80, alphabet)...)
	l = append(l, randomStrings(2000, 80, wordChars)...)
	l = append(l, randomStrings(2000, 80, letters+letters+marks)...)
	l = append(l, randomStrings(2000, 18, letters+digits)...)
	l = append(l, randomStrings(2000, 80, allBytes())...)
	return append(l, "é", "E\u0301", "ſK", "\xc3", "\x80^a", "İ")
}

// P1.1 for all functions but Kind and Compare.
func TestFunctionsOfStrings(t *testing.T) {
	for _, s := range sampleTexts() {
		if got, want := charset.Check(s), wantedCheck(s); got != want {
			t.Errorf("Check(%q) = %d, want %d", s, got, want)
		}
		if got, want := charset.IsWord(s), wantedWord(s); got != want {
			t.Errorf("IsWord(%q) = %t, want %t", s, got, want)
		}
		if got, want := charset.IsName(s), wantedName(s); got != want {
			t.Errorf("IsName(%q) = %t, want %t", s, got, want)
		}
		if got, want := charset.Fold(s), wantedFold(s); got != want {
			t.Errorf("Fold(%q) = %q, want %q", s, got, want)
		}
		if got, want := charset.Plain(s), wantedPlain(s); got != want {
			t.Errorf("Plain(%q) = %q, want %q", s, got, want)
		}
		if got, want := charset.Letters(s), wantedLetters(s); got != want {
			t.Errorf("Letters(%q) = %d, want %d", s, got, want)
		}
		if got, want := charset.Clusters(s), wantedClusters(s); !slices.Equal(got, want) {
			t.Errorf("Clusters(%q) = %q, want %q", s, got, want)
		}
	}
}

// P1.1 for Kind: every byte.
func TestKind(t *testing.T) {
	kinds := []string{1: letters, 2: marks, 3: digits, 4: joins, 5: puncts, 6: " "}
	for i := range 256 {
		want := 0
		for kind, chars := range kinds {
			if isOneOf(byte(i), chars) {
				want = kind
			}
		}
		if got := charset.Kind(byte(i)); got != want {
			t.Errorf("Kind(%q) = %d, want %d", byte(i), got, want)
		}
	}
}

// P1.1 for Compare.
func TestCompare(t *testing.T) {
	l := samples.Strings("aAb^~1", 3)
	l = append(l, randomStrings(100, 12, allBytes())...)
	for _, a := range l {
		for _, b := range l {
			if got, want := charset.Compare(a, b), wantedOrder(a, b); got != want {
				t.Fatalf("Compare(%q, %q) = %d, want %d", a, b, got, want)
			}
		}
	}
}

// P1.2.
func TestAlphabet(t *testing.T) {
	for s, want := range map[string]api.Errno{
		"":                        api.OK,
		"deus est bonus.":         api.OK,
		alphabet[:52]:             api.OK,
		digits + joins + puncts:   api.OK,
		"e^":                      api.OK,
		"e^~%^":                   api.OK,
		"Z~ a%, q'u^i (3)":        api.OK,
		"^":                       api.ErrChar,
		"~a":                      api.ErrChar,
		"^^a":                     api.ErrChar,
		"a1^":                     api.ErrChar,
		"a'%":                     api.ErrChar,
		"a ^":                     api.ErrChar,
		"a.~":                     api.ErrChar,
		"a-~^":                    api.ErrChar,
		"a^1^":                    api.ErrChar,
		"a\n":                     api.ErrChar,
		"a\x00":                   api.ErrChar,
		"<gap 3/>":                api.ErrChar,
		"[a]":                     api.ErrChar,
		"a_":                      api.ErrChar,
		"é":                       api.ErrChar,
		"\xff\xfe":                api.ErrChar,
		strings.Repeat("a", 1000): api.OK,
	} {
		if got := charset.Check(s); got != want {
			t.Errorf("Check(%q) = %d, want %d", s, got, want)
		}
	}
	for _, punct := range strings.Split(puncts+joins+digits+" ", "") {
		for _, mark := range strings.Split(marks, "") {
			if got := charset.Check("a" + punct + mark + "a"); got != api.ErrChar {
				t.Errorf("Check of %q behind %q = %d", mark, punct, got)
			}
		}
	}
}

// P1.2 at the limit: the length comes before the characters.
func TestLongTexts(t *testing.T) {
	for i, c := range []struct {
		s    string
		want api.Errno
	}{
		{strings.Repeat("a", api.MaxText), api.OK},
		{strings.Repeat("a", api.MaxText+1), api.ErrLimit},
		{strings.Repeat(" ", api.MaxText), api.OK},
		{"a" + strings.Repeat("^", api.MaxText-1), api.OK},
		{"a" + strings.Repeat("^", api.MaxText), api.ErrLimit},
		{strings.Repeat("a^", api.MaxText/2), api.OK},
		{strings.Repeat("^", api.MaxText), api.ErrChar},
		{strings.Repeat("^", api.MaxText+1), api.ErrLimit},
		{strings.Repeat("a", api.MaxText-1) + "_", api.ErrChar},
		{strings.Repeat("a", api.MaxText-1) + "^", api.OK},
		{strings.Repeat("1", api.MaxText-1) + "^", api.ErrChar},
		{strings.Repeat("a", api.MaxText) + "_", api.ErrLimit},
		{strings.Repeat("\xff", api.MaxText+1), api.ErrLimit},
	} {
		if got := charset.Check(c.s); got != c.want {
			t.Errorf("case %d: Check = %d, want %d", i, got, c.want)
		}
	}
	long := strings.Repeat("A^", api.MaxText)
	if got := charset.Fold(long); got != strings.Repeat("a^", api.MaxText) {
		t.Error("Fold of a long string")
	}
	if got := charset.Plain(long); got != strings.Repeat("A", api.MaxText) {
		t.Error("Plain of a long string")
	}
	if got := charset.Letters(long); got != api.MaxText {
		t.Errorf("Letters of a long string = %d", got)
	}
	if got := charset.Clusters(long); len(got) != api.MaxText || got[0] != "A^" || got[api.MaxText-1] != "A^" {
		t.Errorf("Clusters of a long string: %d", len(got))
	}
	if got := charset.Compare(long, long+"a"); got != -1 {
		t.Errorf("Compare of long strings = %d", got)
	}
}

// P1.3.
func TestForms(t *testing.T) {
	for _, s := range sampleTexts() {
		folded, plain := charset.Fold(s), charset.Plain(s)
		if charset.Fold(folded) != folded {
			t.Errorf("%q: folded again", s)
		}
		if charset.Plain(plain) != plain {
			t.Errorf("%q: plain form formed again", s)
		}
		if charset.Fold(plain) != charset.Plain(folded) {
			t.Errorf("%q: forms in the other order", s)
		}
		if n := charset.Letters(s); charset.Letters(folded) != n || charset.Letters(plain) != n {
			t.Errorf("%q: letters of the forms", s)
		}
	}
	for _, c := range []struct {
		s, folded, plain string
		letters          int
	}{
		{"", "", "", 0},
		{"De^uS 12", "de^us 12", "DeuS 12", 6},
		{"^A'~.%", "^a'~.%", "A'.", 1},
		{letters, letters[:26] + letters[:26], letters, 52},
		{"@[`{", "@[`{", "@[`{", 0},
		{"\xc3\x89\xffK^", "\xc3\x89\xffk^", "\xc3\x89\xffK", 1},
	} {
		if folded, plain, n := charset.Fold(c.s), charset.Plain(c.s), charset.Letters(c.s); folded != c.folded || plain != c.plain || n != c.letters {
			t.Errorf("%q: %q, %q, %d", c.s, folded, plain, n)
		}
	}
}

// P1.4.
func TestClusters(t *testing.T) {
	for _, s := range sampleTexts() {
		clusters := charset.Clusters(s)
		if strings.Join(clusters, "") != s || slices.Contains(clusters, "") {
			t.Errorf("Clusters(%q) = %q", s, clusters)
		}
		if charset.Check(s) != api.OK {
			continue
		}
		for _, cluster := range clusters {
			if len(charset.Plain(cluster)) != 1 {
				t.Errorf("Clusters(%q) has %q", s, cluster)
			}
		}
	}
	for s, want := range map[string][]string{
		"":         nil,
		"e^~a'b":   {"e^~", "a", "'", "b"},
		"a^b~%":    {"a^", "b~%"},
		"^^a":      {"^", "^", "a"},
		"1^~":      {"1", "^", "~"},
		"a'^ ~":    {"a", "'", "^", " ", "~"},
		"a^.^a":    {"a^", ".", "^", "a"},
		"\xc3\xa9": {"\xc3", "\xa9"},
		"\xff^":    {"\xff", "^"},
	} {
		if got := charset.Clusters(s); !slices.Equal(got, want) {
			t.Errorf("Clusters(%q) = %q, want %q", s, got, want)
		}
	}
}

// P1.5 for all samples.
func TestWordsAndNames(t *testing.T) {
	var words []string
	for _, s := range sampleTexts() {
		if charset.IsName(s) && !charset.IsWord(s) {
			t.Errorf("the name %q is no word", s)
		}
		if !charset.IsWord(s) {
			continue
		}
		words = append(words, s)
		if charset.Check(s) != api.OK || strings.ContainsAny(s, puncts+" ") {
			t.Errorf("IsWord(%q)", s)
		}
	}
	for i, a := range words {
		b := words[(i*7919+1)%len(words)]
		if charset.IsWord(a+b) != (len(a+b) <= api.MaxWord) {
			t.Errorf("IsWord(%q + %q) = %t", a, b, charset.IsWord(a+b))
		}
	}
}

// P1.5 for chosen strings.
func TestChosenWordsAndNames(t *testing.T) {
	for _, c := range []struct {
		s          string
		word, name bool
	}{
		{"", false, false},
		{"a", true, true},
		{"7", true, true},
		{"A1", true, true},
		{"1a", true, true},
		{"e^~", true, false},
		{"qu'a'", true, false},
		{"'a", false, false},
		{"'", false, false},
		{"^a", false, false},
		{"1^", false, false},
		{"a'^", false, false},
		{"a b", false, false},
		{"a-b", false, false},
		{"a.", false, false},
		{"a*", false, false},
		{"é", false, false},
		{"a\xff", false, false},
		{"a\x00", false, false},
		{strings.Repeat("a", 16), true, true},
		{strings.Repeat("1", 16), true, true},
		{strings.Repeat("a", 17), true, false},
		{strings.Repeat("a", 15) + "^", true, false},
		{strings.Repeat("a", 64), true, false},
		{strings.Repeat("a", 65), false, false},
		{"a" + strings.Repeat("^", 63), true, false},
		{"a" + strings.Repeat("^", 64), false, false},
		{"1" + strings.Repeat("'", 63), true, false},
	} {
		if word, name := charset.IsWord(c.s), charset.IsName(c.s); word != c.word || name != c.name {
			t.Errorf("%q: %t, %t", c.s, word, name)
		}
	}
}

// P1.6: strings are in a total order if each one stands before all behind it in a sorted list of them.
func TestDictionaryOrder(t *testing.T) {
	l := samples.Strings("aAb^%1'", 3)
	l = append(l, randomStrings(300, 10, allBytes())...)
	slices.Sort(l)
	l = slices.Compact(l)
	slices.SortFunc(l, charset.Compare)
	for i, a := range l {
		for j, b := range l {
			if got := charset.Compare(a, b); got != cmp.Compare(i, j) {
				t.Fatalf("Compare(%q, %q) = %d, but they stand at %d and %d", a, b, got, i, j)
			}
			folded, other := charset.Fold(charset.Plain(a)), charset.Fold(charset.Plain(b))
			if folded < other && i > j {
				t.Fatalf("%q stands behind %q", a, b)
			}
		}
	}
}

// P1.6 for a list in dictionary order.
func TestDictionary(t *testing.T) {
	want := []string{"", "%", "^", "1", "A", "A%", "A^", "A~", "^a", "a", "a%", "a^", "AB", "aB", "a^b", "ab", "ab^", "B", "b", "b^", "Deus", "Deus^", "deus", "deus'", "Z", "z", "\xff"}
	got := slices.Sorted(slices.Values(want))
	slices.SortFunc(got, charset.Compare)
	if !slices.Equal(got, want) {
		t.Errorf("in dictionary order: %q", got)
	}
	for _, s := range want {
		if order := charset.Compare(s, s); order != 0 {
			t.Errorf("Compare(%q, %q) = %d", s, s, order)
		}
	}
}
