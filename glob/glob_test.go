package glob_test

import (
	"math"
	"math/rand"
	"regexp"
	"slices"
	"strings"
	"testing"

	"apograph/api"
	"apograph/glob"
	"apograph/samples"
)

// The functions down to wantedReverse restate the chapter's definitions in another way than the package does: patterns are divided and matched with regular expressions, and common strings are looked for among all strings.

// wordChars are the characters of words in ascending order.
const wordChars = "!%'()*,-.0123456789:;?ABCDEFGHIJKLMNOPQRSTUVWXYZ^abcdefghijklmnopqrstuvwxyz~"

// oneChar is the expression for one character of words.
const oneChar = `[!%'()*,\-.0-9:;?A-Z^a-z~]`

var (
	elementForm = regexp.MustCompile(`\[` + oneChar + `+\]|` + oneChar)
	patternForm = regexp.MustCompile(`^(?:` + elementForm.String() + `)*`)
	syntaxForm  = regexp.MustCompile(`^(?:\]|\[\]|\[[^\]]*$)`)
)

// latin returns s with a character of two or more bytes for each byte that is not of ASCII, as regular expressions count characters.
func latin(s string) string {
	runes := make([]rune, len(s))
	for i := range len(s) {
		runes[i] = rune(s[i])
	}
	return string(runes)
}

func wantedCheck(p string) api.Errno {
	rest := latin(p)
	rest = rest[len(patternForm.FindString(rest)):]
	switch {
	case len(p) > 64:
		return api.ErrLimit
	case rest == "":
		return api.OK
	case syntaxForm.MatchString(rest):
		return api.ErrSyntax
	}
	return api.ErrChar
}

// parts returns the elements of the pattern p.
func parts(p string) []string { return elementForm.FindAllString(p, -1) }

// inBrackets returns what stands within the brackets of an element, if it has some.
func inBrackets(element string) (string, bool) {
	return strings.Trim(element, "[]"), len(element) > 1
}

// expression returns the regular expression for what matches the pattern p.
func expression(p string) *regexp.Regexp {
	s := `\A(?s:`
	for _, element := range parts(p) {
		chars, is := inBrackets(element)
		switch {
		case element == "?":
			s += `.`
		case element == "*":
			s += `.*`
		case is:
			var choices []string
			for _, c := range chars {
				choices = append(choices, regexp.QuoteMeta(string(c)))
			}
			s += `(?:` + strings.Join(choices, `|`) + `)`
		default:
			s += regexp.QuoteMeta(element)
		}
	}
	return regexp.MustCompile(s + `)\z`)
}

// wantedString returns the error of a string.
func wantedString(w string) api.Errno {
	switch {
	case len(w) > 64:
		return api.ErrLimit
	case strings.Count(w, " ") > 0:
		return api.ErrChar
	}
	return api.OK
}

func wantedMatch(p, w string) (bool, api.Errno) {
	if wantedCheck(p) != api.OK {
		return false, api.ErrArgument
	}
	if e := wantedString(w); e != api.OK {
		return false, e
	}
	return expression(p).MatchString(latin(w)), api.OK
}

func wantedLiteral(p string) (string, bool, api.Errno) {
	if wantedCheck(p) != api.OK {
		return "", false, api.ErrArgument
	}
	literal := ""
	for _, element := range parts(p) {
		chars, is := inBrackets(element)
		if !is && strings.Contains("?*", chars) || strings.Trim(chars, chars[:1]) != "" {
			return "", false, api.OK
		}
		literal += chars[:1]
	}
	return literal, true, api.OK
}

func wantedBounds(p string) (int, int, api.Errno) {
	if wantedCheck(p) != api.OK {
		return 0, 0, api.ErrArgument
	}
	l := parts(p)
	least := len(slices.DeleteFunc(slices.Clone(l), func(element string) bool { return element == "*" }))
	if least < len(l) {
		return least, -1, api.OK
	}
	return least, least, api.OK
}

// chosenChars returns, in ascending order, the characters of words in the patterns, and the first one of all others, which stands for these.
func chosenChars(p, q string) string {
	chars, others := "", 0
	for _, c := range wordChars {
		is := strings.ContainsRune(p+q, c)
		if !is {
			others++
		}
		if is || others == 1 {
			chars += string(c)
		}
	}
	return chars
}

func wantedCommon(p, q string, most int) (string, bool, api.Errno) {
	switch {
	case wantedCheck(p) != api.OK || wantedCheck(q) != api.OK:
		return "", false, api.ErrArgument
	case most < 0 || most > 8:
		return "", false, api.ErrRange
	}
	first, second := expression(p), expression(q)
	for _, w := range samples.Strings(chosenChars(p, q), most) {
		if first.MatchString(w) && second.MatchString(w) {
			return w, true, api.OK
		}
	}
	return "", false, api.OK
}

func wantedFilter(p string, l []string) ([]string, api.Errno) {
	switch {
	case wantedCheck(p) != api.OK:
		return nil, api.ErrArgument
	case len(l) > 4096:
		return nil, api.ErrLimit
	}
	for _, w := range l {
		if e := wantedString(w); e != api.OK {
			return nil, e
		}
	}
	form := expression(p)
	return slices.DeleteFunc(slices.Clone(l), func(w string) bool { return !form.MatchString(latin(w)) }), api.OK
}

func wantedReverse(p string) (string, api.Errno) {
	if wantedCheck(p) != api.OK {
		return "", api.ErrArgument
	}
	l := parts(p)
	slices.Reverse(l)
	return strings.Join(l, ""), api.OK
}

func repeat(s string, n int) string { return strings.Repeat(s, n) }

// checkPattern compares all functions of one pattern alone with what is wanted, and returns its error.
func checkPattern(t *testing.T, p string) api.Errno {
	t.Helper()
	e := glob.Check(p)
	if want := wantedCheck(p); e != want {
		t.Errorf("Check(%q): %d, not %d", p, e, want)
	}
	w, is, f := glob.Literal(p)
	if want, has, g := wantedLiteral(p); w != want || is != has || f != g {
		t.Errorf("Literal(%q): %q, %v, %d", p, w, is, f)
	}
	least, most, f := glob.Bounds(p)
	if low, high, g := wantedBounds(p); least != low || most != high || f != g {
		t.Errorf("Bounds(%q): %d, %d, %d", p, least, most, f)
	}
	back, f := glob.Reverse(p)
	if want, g := wantedReverse(p); back != want || f != g {
		t.Errorf("Reverse(%q): %q, %d", p, back, f)
	}
	if again, f := glob.Reverse(back); e == api.OK && (again != p || f != api.OK) {
		t.Errorf("P7.7: Reverse(%q): %q, %d", back, again, f)
	}
	return e
}

// match returns whether w matches p, and fails the test if there is an error.
func match(t *testing.T, p, w string) bool {
	t.Helper()
	is, e := glob.Match(p, w)
	if e != api.OK {
		t.Errorf("Match(%q, %q): %v, %d", p, w, is, e)
	}
	return is
}

// backwards returns the bytes of s in the opposite order.
func backwards(s string) string {
	b := []byte(s)
	slices.Reverse(b)
	return string(b)
}

// valid returns the strings of l that are patterns.
func valid(l []string) []string {
	return slices.DeleteFunc(slices.Clone(l), func(p string) bool { return wantedCheck(p) != api.OK })
}

// wrong are strings that are no patterns.
func wrong() []string {
	return []string{"]", "[", "[]", "[ab", "[[a]", "[a ]", " ", "a b", "a&", "\xff", "\x00", "é", "*]", "?[", "[]a]", "a[b]]", repeat("a", 65), repeat("]", 65), repeat("*", 1000)}
}

// randomElement returns an element, most often of few characters.
func randomElement(r *rand.Rand) string {
	chars := "abc"
	if r.Intn(5) == 0 {
		chars = wordChars
	}
	one := func() string { return string(chars[r.Intn(len(chars))]) }
	switch r.Intn(8) {
	case 0, 1:
		return "*"
	case 2, 3:
		return "?"
	case 4, 5:
		s := one()
		for range r.Intn(4) {
			s += one()
		}
		return "[" + s + "]"
	}
	return one()
}

// randomPattern returns a pattern of at most most elements.
func randomPattern(r *rand.Rand, most int) string {
	p := ""
	for range r.Intn(most + 1) {
		if e := randomElement(r); len(p)+len(e) <= 64 {
			p += e
		}
	}
	return p
}

// randomFrom returns a string that matches p, or is a few bytes away from one.
func randomFrom(r *rand.Rand, p string) string {
	w := ""
	for _, element := range parts(p) {
		chars, is := inBrackets(element)
		switch {
		case is:
			w += string(chars[r.Intn(len(chars))])
		case element == "?":
			w += randomByte(r)
		case element == "*":
			for range r.Intn(4) {
				w += randomByte(r)
			}
		default:
			w += element
		}
	}
	for range r.Intn(3) {
		at := r.Intn(len(w) + 1)
		end := min(at+r.Intn(2), len(w))
		w = w[:at] + repeat(randomByte(r), r.Intn(2)) + w[end:]
	}
	return w
}

// randomByte returns a byte, most often one of few characters, and never a space.
func randomByte(r *rand.Rand) string {
	if r.Intn(4) == 0 {
		return strings.ReplaceAll(string([]byte{byte(r.Intn(256))}), " ", "_")
	}
	return string("abc"[r.Intn(3)])
}

// P7.1 for patterns by hand, each with its bounds, its literal, and its reversed pattern.
func TestPatternsByHand(t *testing.T) {
	for i, c := range []struct {
		p           string
		least, most int
		literal     string
		is          bool
		back        string
	}{
		{"", 0, 0, "", true, ""}, {"a", 1, 1, "a", true, "a"}, {"deus", 4, 4, "deus", true, "sued"}, {"Q9", 2, 2, "Q9", true, "9Q"}, {"e^~", 3, 3, "e^~", true, "~^e"}, {"^", 1, 1, "^", true, "^"}, {"%a", 2, 2, "%a", true, "a%"}, {"qu'a", 4, 4, "qu'a", true, "a'uq"}, {"'a", 2, 2, "'a", true, "a'"}, {".,;:!()-", 8, 8, ".,;:!()-", true, "-)(!:;,."},
		{"?", 1, 1, "", false, "?"}, {"a?", 2, 2, "", false, "?a"}, {"?????", 5, 5, "", false, "?????"}, {"*", 0, -1, "", false, "*"}, {"**", 0, -1, "", false, "**"}, {"*a", 1, -1, "", false, "a*"}, {"a*", 1, -1, "", false, "*a"}, {"de*s", 3, -1, "", false, "s*ed"}, {"*?*", 1, -1, "", false, "*?*"}, {"***ab**", 2, -1, "", false, "**ba***"},
		{"[a]", 1, 1, "a", true, "[a]"}, {"[aa]", 1, 1, "a", true, "[aa]"}, {"[aaaa]b", 2, 2, "ab", true, "b[aaaa]"}, {"[ab]", 1, 1, "", false, "[ab]"}, {"[aab]", 1, 1, "", false, "[aab]"}, {"[aba]", 1, 1, "", false, "[aba]"}, {"[ba]c[de]", 3, 3, "", false, "[de]c[ba]"}, {"[?]", 1, 1, "?", true, "[?]"}, {"[*]", 1, 1, "*", true, "[*]"}, {"[**]", 1, 1, "*", true, "[**]"}, {"[?*]", 1, 1, "", false, "[?*]"}, {"[*a]", 1, 1, "", false, "[*a]"}, {"[?][*]", 2, 2, "?*", true, "[*][?]"}, {"[*]*", 1, -1, "", false, "*[*]"}, {"?[?]", 2, 2, "", false, "[?]?"}, {"[^]", 1, 1, "^", true, "[^]"}, {"[^a]", 1, 1, "", false, "[^a]"}, {"[a-c]", 1, 1, "", false, "[a-c]"}, {"[-]", 1, 1, "-", true, "[-]"}, {"[!]", 1, 1, "!", true, "[!]"}, {"[!a]", 1, 1, "", false, "[!a]"}, {"[dD]eus", 4, 4, "", false, "sue[dD]"}, {"[d]eus", 4, 4, "deus", true, "sue[d]"}, {"a?[bc]*", 3, -1, "", false, "*[bc]?a"}, {"[" + wordChars[:62] + "]", 1, 1, "", false, "[" + wordChars[:62] + "]"},
		{repeat("a", 64), 64, 64, repeat("a", 64), true, repeat("a", 64)}, {repeat("?", 64), 64, 64, "", false, repeat("?", 64)}, {repeat("*", 64), 0, -1, "", false, repeat("*", 64)}, {repeat("?", 63) + "*", 63, -1, "", false, "*" + repeat("?", 63)}, {repeat("[a]", 21) + "b", 22, 22, repeat("a", 21) + "b", true, "b" + repeat("[a]", 21)}, {"[" + repeat("a", 62) + "]", 1, 1, "a", true, "[" + repeat("a", 62) + "]"}, {"[" + repeat("a", 61) + "b]", 1, 1, "", false, "[" + repeat("a", 61) + "b]"},
	} {
		least, most, e := glob.Bounds(c.p)
		w, is, f := glob.Literal(c.p)
		back, g := glob.Reverse(c.p)
		if glob.Check(c.p) != api.OK || max(e, f, g) != api.OK || least != c.least || most != c.most || w != c.literal || is != c.is || back != c.back {
			t.Errorf("case %d: %d, %d, %d, %q, %v, %q", i, glob.Check(c.p), least, most, w, is, back)
		}
		checkPattern(t, c.p)
	}
}

// P7.1 for strings that are no patterns.
func TestNoPatterns(t *testing.T) {
	for i, c := range []struct {
		p    string
		want api.Errno
	}{
		{"]", api.ErrSyntax}, {"a]", api.ErrSyntax}, {"]a", api.ErrSyntax}, {"[a]]", api.ErrSyntax}, {"][", api.ErrSyntax}, {"[", api.ErrSyntax}, {"a[", api.ErrSyntax}, {"[a", api.ErrSyntax}, {"[ab*?", api.ErrSyntax}, {"[a][", api.ErrSyntax}, {"[a][b", api.ErrSyntax}, {"[]", api.ErrSyntax}, {"[]]", api.ErrSyntax}, {"[]a]", api.ErrSyntax}, {"a[]b", api.ErrSyntax}, {"[a][]", api.ErrSyntax}, {"[[", api.ErrSyntax}, {"[[[a", api.ErrSyntax},
		{" ", api.ErrChar}, {"a b", api.ErrChar}, {" a", api.ErrChar}, {"a ", api.ErrChar}, {"&", api.ErrChar}, {"a&", api.ErrChar}, {"\"", api.ErrChar}, {"_", api.ErrChar}, {"\\a", api.ErrChar}, {"{", api.ErrChar}, {"\x00", api.ErrChar}, {"\n", api.ErrChar}, {"\x7f", api.ErrChar}, {"\x80", api.ErrChar}, {"\xff", api.ErrChar}, {"é", api.ErrChar}, {"/", api.ErrChar}, {"<", api.ErrChar}, {"+", api.ErrChar},
		{"[[a]", api.ErrChar}, {"[a[]", api.ErrChar}, {"[[]", api.ErrChar}, {"[[]]", api.ErrChar}, {"[a ]", api.ErrChar}, {"[ ]", api.ErrChar}, {"[ a]", api.ErrChar}, {"[&]", api.ErrChar}, {"[ab\xff]", api.ErrChar}, {"[\x00]", api.ErrChar}, {"[é]", api.ErrChar}, {"[abcdefgh+]", api.ErrChar}, {"[+abcdefgh]", api.ErrChar},
		// The first element that has an error has it. Without a ], what stands behind the [ is not looked at.
		{" ]", api.ErrChar}, {"] ", api.ErrSyntax}, {"a&[", api.ErrChar}, {"[&", api.ErrSyntax}, {"[ ", api.ErrSyntax}, {"[]&", api.ErrSyntax}, {"&[]", api.ErrChar}, {"[ ]]", api.ErrChar}, {"[]]&", api.ErrSyntax}, {"[ ][", api.ErrChar}, {"[a][]&", api.ErrSyntax}, {"[a]&[]", api.ErrChar}, {"[[]&", api.ErrChar}, {"[a]&]", api.ErrChar}, {"[[a", api.ErrSyntax},
		// Too many bytes come before all others.
		{repeat("a", 65), api.ErrLimit}, {repeat("*", 65), api.ErrLimit}, {repeat("]", 65), api.ErrLimit}, {repeat("[", 65), api.ErrLimit}, {repeat(" ", 65), api.ErrLimit}, {"]" + repeat("a", 64), api.ErrLimit}, {" " + repeat("a", 64), api.ErrLimit}, {"[" + repeat("a", 63) + "]", api.ErrLimit}, {repeat("a", 70000), api.ErrLimit}, {repeat("]", 64), api.ErrSyntax}, {repeat("[", 64), api.ErrSyntax}, {repeat(" ", 64), api.ErrChar}, {repeat("a", 63) + "&", api.ErrChar}, {repeat("a", 63) + "]", api.ErrSyntax}, {repeat("é", 32), api.ErrChar}, {repeat("é", 33), api.ErrLimit},
	} {
		if e := glob.Check(c.p); e != c.want {
			t.Errorf("case %d: Check(%q): %d, not %d", i, c.p, e, c.want)
		}
		checkPattern(t, c.p)
	}
}

// P7.1: each byte, in a pattern and within brackets, and as what matches.
func TestBytes(t *testing.T) {
	for n := range 256 {
		c := string([]byte{byte(n)})
		checkPattern(t, c)
		for _, p := range []string{"a" + c, c + "a", "[" + c + "]", "[a" + c + "]", "[" + c + "a]", "[" + c, c + "]"} {
			checkPattern(t, p)
		}
		if c == " " {
			continue
		}
		for p, want := range map[string]bool{"?": true, "*": true, "??": false, "": false, "[?]": c == "?", "[*]": c == "*", "[ab]": c == "a" || c == "b", "a": c == "a", "*?": true, "?*?": false} {
			if is := match(t, p, c); is != want {
				t.Errorf("Match(%q, %q): %v", p, c, is)
			}
		}
		for _, p := range []string{c, "[" + c + "]", "[a" + c + "]"} {
			if strings.Contains(wordChars, c) && (!match(t, p, c) || match(t, p, "_") && c != "?" && c != "*") {
				t.Errorf("%q does not match %q alone", c, p)
			}
		}
	}
}

// P7.1 and P7.2 for patterns and strings by hand.
func TestMatchByHand(t *testing.T) {
	many := repeat("a", 64)
	for i, c := range []struct {
		p, w string
		is   bool
		e    api.Errno
	}{
		{"de*s", "deus", true, api.OK}, {"de*s", "des", true, api.OK}, {"de*s", "deum", false, api.OK}, {"de*s", "de", false, api.OK}, {"de*s", "desertus", true, api.OK}, {"de*s", "adeus", false, api.OK}, {"de*s", "deusa", false, api.OK},
		{"", "", true, api.OK}, {"", "a", false, api.OK}, {"a", "", false, api.OK}, {"a", "a", true, api.OK}, {"a", "aa", false, api.OK}, {"aa", "a", false, api.OK}, {"A", "a", false, api.OK}, {"?", "", false, api.OK}, {"[a]", "", false, api.OK}, {"[ab]", "ab", false, api.OK}, {"[ab][ab]", "ba", true, api.OK}, {"[a-c]", "b", false, api.OK}, {"[a-c]", "-", true, api.OK}, {"[^a]", "b", false, api.OK}, {"[^a]", "^", true, api.OK}, {"[^a]", "a", true, api.OK}, {"[!a]", "b", false, api.OK}, {".", "a", false, api.OK}, {"(a)", "a", false, api.OK}, {"(a)", "(a)", true, api.OK},
		{"*", "", true, api.OK}, {"**", "", true, api.OK}, {"*a", "a", true, api.OK}, {"*a", "ba", true, api.OK}, {"*a", "ab", false, api.OK}, {"a*", "a", true, api.OK}, {"a*", "ab", true, api.OK}, {"a*", "ba", false, api.OK}, {"a*a", "a", false, api.OK}, {"a*a", "aa", true, api.OK}, {"a***a", "aba", true, api.OK}, {"***", "abc", true, api.OK}, {"*a*b", "xaab", true, api.OK}, {"*a*b", "xaabc", false, api.OK}, {"*a*b", "xba", false, api.OK}, {"*?", "", false, api.OK}, {"*?", "ab", true, api.OK}, {"?*?", "a", false, api.OK}, {"?*?", "ab", true, api.OK}, {"*ab*ab*", "abab", true, api.OK}, {"*ab*ab*", "aab", false, api.OK}, {"*ab*ba*", "aba", false, api.OK}, {"*aab", "aaab", true, api.OK},
		{"???", "[2]", true, api.OK}, {"?", "\x00", true, api.OK}, {"?", "\xff", true, api.OK}, {"?", "é", false, api.OK}, {"??", "é", true, api.OK}, {"?", "]", true, api.OK}, {"*", "\n", true, api.OK}, {"?", "\n", true, api.OK}, {"*", "a\tb", true, api.OK}, {"[?]", "a", false, api.OK}, {"[*]", "a", false, api.OK}, {"[*]", "", false, api.OK}, {"[*]", "**", false, api.OK}, {"[?*]", "*", true, api.OK}, {"[?*]", "?", true, api.OK}, {"[?*]", "a", false, api.OK},
		{many, many, true, api.OK}, {many, many[1:], false, api.OK}, {many[1:] + "b", many, false, api.OK}, {many[1:] + "b", many[1:] + "b", true, api.OK}, {repeat("?", 64), repeat("\xff", 64), true, api.OK}, {repeat("?", 64), many[1:], false, api.OK}, {repeat("*", 64), many, true, api.OK}, {repeat("*", 64), "", true, api.OK}, {many[1:] + "*", many, true, api.OK}, {many[1:] + "*", many[1:], true, api.OK}, {many[1:] + "*", many[2:], false, api.OK}, {"*" + many[1:], "b" + many[1:], true, api.OK}, {repeat("*?", 32), many[32:], true, api.OK}, {repeat("*?", 32), many[33:], false, api.OK}, {repeat("*a", 32), many[1:] + "b", false, api.OK}, {repeat("a*", 32), "b" + many[1:], false, api.OK}, {repeat("*a", 31) + "*b", many, false, api.OK}, {"*", many, true, api.OK}, {"*", repeat("\x80", 64), true, api.OK},
		// The error of the pattern comes first, then the length of the string.
		{"*", "a b", false, api.ErrChar}, {"*", " ", false, api.ErrChar}, {"?", " ", false, api.ErrChar}, {"a", " ", false, api.ErrChar}, {"", "a ", false, api.ErrChar}, {"*", many[1:] + " ", false, api.ErrChar}, {"*", many + "a", false, api.ErrLimit}, {"*", many + " ", false, api.ErrLimit}, {"*", repeat(" ", 65), false, api.ErrLimit}, {"", repeat(" ", 64), false, api.ErrChar}, {"a", repeat("b", 70000), false, api.ErrLimit}, {"[", " ", false, api.ErrArgument}, {"[", many + "a", false, api.ErrArgument}, {many + "a", many + "a", false, api.ErrArgument}, {"a b", "a b", false, api.ErrArgument},
	} {
		if is, e := glob.Match(c.p, c.w); is != c.is || e != c.e {
			t.Errorf("case %d: Match(%q, %q): %v, %d", i, c.p, c.w, is, e)
		}
		if is, e := wantedMatch(c.p, c.w); is != c.is || e != c.e {
			t.Errorf("case %d: the regular expression for %q has %v, %d", i, c.p, is, e)
		}
	}
}

// P7.1 for all short strings as patterns.
func TestShortPatterns(t *testing.T) {
	seen := map[api.Errno]int{}
	for _, p := range samples.Strings("ab?*[] &\xff", 4) {
		seen[checkPattern(t, p)]++
	}
	for _, p := range samples.Strings("a*[]", 7) {
		seen[checkPattern(t, p)]++
	}
	if seen[api.OK] < 500 || seen[api.ErrSyntax] < 500 || seen[api.ErrChar] < 500 {
		t.Errorf("the patterns are one-sided: %v", seen)
	}
}

// P7.1 for long random patterns, whole and with a fault or two.
func TestRandomPatterns(t *testing.T) {
	r := rand.New(rand.NewSource(1))
	faults := []string{"[", "]", "[]", " ", "&", "\xff", "*", "a"}
	seen := map[api.Errno]int{}
	for range 20000 {
		p := randomPattern(r, 40)
		for range r.Intn(4) {
			at := r.Intn(len(p) + 1)
			p = p[:at] + faults[r.Intn(len(faults))] + p[at:]
		}
		seen[checkPattern(t, p)]++
	}
	if seen[api.OK] < 2000 || seen[api.ErrSyntax] < 2000 || seen[api.ErrChar] < 2000 || seen[api.ErrLimit] < 100 {
		t.Errorf("the patterns are one-sided: %v", seen)
	}
}

// P7.1, P7.3, P7.4 and P7.7 for short patterns and all short strings.
func TestShortStrings(t *testing.T) {
	seen := map[bool]int{}
	all := samples.Strings("ab?*\xff", 4)
	for _, p := range valid(append(samples.Strings("ab?*[]", 4), "[ab][ab]", "a[b*]?", "*[ab]?[ab]", "[a]*[a]", "*[ab]*[b?]", "[aab]a*?")) {
		form := expression(p)
		literal, is, _ := glob.Literal(p)
		least, most, _ := glob.Bounds(p)
		back, _ := glob.Reverse(p)
		count := 0
		for _, w := range all {
			found := match(t, p, w)
			if found != form.MatchString(latin(w)) {
				t.Errorf("Match(%q, %q): %v", p, w, found)
			}
			if is && found != (w == literal) {
				t.Errorf("P7.3: the literal of %q is %q, but %q has %v", p, literal, w, found)
			}
			if found && (len(w) < least || most >= 0 && len(w) > most) {
				t.Errorf("P7.4: %q matches %q, which has the bounds %d and %d", w, p, least, most)
			}
			if match(t, back, backwards(w)) != found {
				t.Errorf("P7.7: %q and %q, and %q and %q backwards", p, w, back, backwards(w))
			}
			if found {
				count++
			}
			seen[found]++
		}
		if !is && count == 1 {
			t.Errorf("P7.3: %q has no literal, but one string", p)
		}
	}
	if seen[true] < 5000 || seen[false] < 5000 {
		t.Errorf("the strings are one-sided: %v", seen)
	}
}

// P7.1, P7.4 and P7.7 for random patterns, and strings that match them or nearly do.
func TestRandomStrings(t *testing.T) {
	r := rand.New(rand.NewSource(2))
	seen := map[bool]int{}
	for i := range 4000 {
		p := randomPattern(r, 3+i%45)
		form := expression(p)
		least, most, _ := glob.Bounds(p)
		back, _ := glob.Reverse(p)
		for range 10 {
			w := randomFrom(r, p)
			if len(w) > 64 {
				continue
			}
			is := match(t, p, w)
			if is != form.MatchString(latin(w)) {
				t.Errorf("Match(%q, %q): %v", p, w, is)
			}
			if is && (len(w) < least || most >= 0 && len(w) > most) {
				t.Errorf("P7.4: %q matches %q, which has the bounds %d and %d", w, p, least, most)
			}
			if match(t, back, backwards(w)) != is {
				t.Errorf("P7.7: %q and %q, and %q and %q backwards", p, w, back, backwards(w))
			}
			seen[is]++
		}
	}
	if seen[true] < 8000 || seen[false] < 8000 {
		t.Errorf("the strings are one-sided: %v", seen)
	}
}

// filled returns a string that matches p, with n bytes for the first star.
func filled(p string, n int) string {
	w := ""
	for _, element := range parts(p) {
		chars, is := inBrackets(element)
		switch {
		case is:
			w += chars[:1]
		case element == "?":
			w += "x"
		case element == "*":
			w += repeat("y", n)
			n = 0
		default:
			w += element
		}
	}
	return w
}

// P7.4: each bound is the length of a string that matches, and without a greatest one there are strings of all further lengths.
func TestBoundsAreReached(t *testing.T) {
	r := rand.New(rand.NewSource(3))
	seen := map[bool]int{}
	for i := range 3000 {
		p := randomPattern(r, 1+i%30)
		least, most, e := glob.Bounds(p)
		if w := filled(p, 0); len(w) != least || !match(t, p, w) || e != api.OK {
			t.Errorf("%q has the bounds %d and %d, and %q", p, least, most, w)
		}
		for _, n := range []int{1, 2, 64 - least} {
			if w := filled(p, n); most == -1 && len(w) <= 64 && (len(w) != least+n || !match(t, p, w)) {
				t.Errorf("%q has the bounds %d and %d, and not %q", p, least, most, w)
			}
		}
		seen[most == -1]++
	}
	if seen[true] < 300 || seen[false] < 300 {
		t.Errorf("the patterns are one-sided: %v", seen)
	}
}

// P7.2 for short patterns, one behind the other, and all ways to divide a string.
func TestParts(t *testing.T) {
	seen := map[bool]int{}
	r := rand.New(rand.NewSource(4))
	short := valid(append(samples.Strings("ab?*", 2), "[ab]", "[a]b", "*[b*]", "[?]*", "*a*b", "a*b?", "[ab]*"))
	all := samples.Strings("ab?", 4)
	check := func(p, q, w string) {
		t.Helper()
		want := false
		for i := range len(w) + 1 {
			want = want || match(t, p, w[:i]) && match(t, q, w[i:])
		}
		if is := match(t, p+q, w); is != want {
			t.Errorf("P7.2: %q and %q: %q has %v", p, q, w, is)
		}
		seen[want]++
	}
	for _, p := range short {
		for _, q := range short {
			for _, w := range all {
				check(p, q, w)
			}
		}
	}
	for range 3000 {
		p, q := randomPattern(r, 10), randomPattern(r, 10)
		if w := randomFrom(r, p) + randomFrom(r, q); len(p+q) <= 64 && len(w) <= 64 {
			check(p, q, w)
		}
	}
	if seen[true] < 5000 || seen[false] < 5000 {
		t.Errorf("the strings are one-sided: %v", seen)
	}
}

// P7.8: all strings match a star, and further stars behind one change nothing.
func TestStars(t *testing.T) {
	r := rand.New(rand.NewSource(5))
	for range 3000 {
		p := randomPattern(r, 10)
		w := randomFrom(r, p)
		if len(w) > 64 {
			continue
		}
		for _, stars := range []string{"*", "**", "***", repeat("*", 64)} {
			if !match(t, stars, w) {
				t.Errorf("P7.8: %q does not match %q", w, stars)
			}
		}
		for _, stars := range []string{"**", "*****"} {
			more := strings.ReplaceAll(p, "*", stars)
			if len(more) <= 64 && match(t, more, w) != match(t, p, w) {
				t.Errorf("P7.8: %q matches either %q or %q", w, p, more)
			}
			if least, most, e := glob.Bounds(p); len(more) <= 64 {
				if low, high, f := glob.Bounds(more); low != least || high != most || e != f {
					t.Errorf("P7.8: %q and %q have other bounds: %d, %d, %d", p, more, low, high, f)
				}
			}
		}
	}
}

// P7.1 and P7.5 for patterns by hand.
func TestCommonByHand(t *testing.T) {
	for i, c := range []struct {
		p, q string
		most int
		w    string
		is   bool
		e    api.Errno
	}{
		{"a*", "*b", 8, "ab", true, api.OK}, {"a*", "*b", 2, "ab", true, api.OK}, {"a*", "*b", 1, "", false, api.OK}, {"a*", "*b", 0, "", false, api.OK}, {"", "", 0, "", true, api.OK}, {"", "", 8, "", true, api.OK}, {"", "*", 3, "", true, api.OK}, {"*", "*", 0, "", true, api.OK}, {"**", "***", 8, "", true, api.OK}, {"", "a", 8, "", false, api.OK}, {"", "?", 8, "", false, api.OK}, {"?", "", 8, "", false, api.OK}, {"a", "b", 8, "", false, api.OK}, {"a", "A", 8, "", false, api.OK}, {"a", "a", 0, "", false, api.OK}, {"a", "a", 1, "a", true, api.OK},
		// The first one by length, then bytewise.
		{"?", "*", 5, "!", true, api.OK}, {"??", "*", 5, "!!", true, api.OK}, {"?", "?", 1, "!", true, api.OK}, {"*?", "?*", 8, "!", true, api.OK}, {"[abc]", "[bcd]", 3, "b", true, api.OK}, {"[cba]", "?", 3, "a", true, api.OK}, {"[ba][cb]", "[ab][bc]", 3, "ab", true, api.OK}, {"[ab]*[ab]", "b*", 8, "ba", true, api.OK}, {"*[za]", "[za]*", 8, "a", true, api.OK}, {"[z~]", "[~z]", 1, "z", true, api.OK}, {"[aZ]", "?", 1, "Z", true, api.OK}, {"[a9]", "?", 1, "9", true, api.OK}, {"[^a]", "?", 1, "^", true, api.OK}, {"[%']", "?", 1, "%", true, api.OK}, {"[(*]", "?", 1, "(", true, api.OK}, {"[*)]", "?", 1, ")", true, api.OK}, {"[*,]", "?", 1, "*", true, api.OK}, {"[*]", "?", 5, "*", true, api.OK}, {"[?]", "*", 5, "?", true, api.OK}, {"[?]", "[*]", 5, "", false, api.OK}, {"*b*a*", "*", 8, "ba", true, api.OK}, {"*b*a*", "a*", 8, "aba", true, api.OK}, {"*b*", "*a*", 8, "ab", true, api.OK}, {"b*", "*b*c*", 8, "bc", true, api.OK}, {"*ab", "*b*b", 8, "bab", true, api.OK},
		{"a*a", "*", 4, "aa", true, api.OK}, {"a?", "?b", 2, "ab", true, api.OK}, {"x*y", "*y*z*", 5, "xyzy", true, api.OK}, {"x*y", "*y*z*", 4, "xyzy", true, api.OK}, {"x*y", "*y*z*", 3, "", false, api.OK}, {"ab*", "*ba", 8, "aba", true, api.OK}, {"abc", "abc", 2, "", false, api.OK}, {"abc", "abc", 3, "abc", true, api.OK}, {"abcd*", "*abcd", 8, "abcd", true, api.OK}, {"abcd*", "*efgh", 8, "abcdefgh", true, api.OK}, {"abcd*", "*efgh", 7, "", false, api.OK}, {"abcde*", "*fghi", 8, "", false, api.OK}, {"????????", "*", 8, "!!!!!!!!", true, api.OK}, {"?????????", "*", 8, "", false, api.OK}, {"*?????", "????????", 8, "!!!!!!!!", true, api.OK}, {"*a", "*b", 8, "", false, api.OK}, {"*aa*", "*bb*", 8, "aabb", true, api.OK}, {"*ab*", "*ba*", 8, "aba", true, api.OK}, {"*[ab]c*", "?*d", 8, "acd", true, api.OK}, {repeat("a", 64), repeat("a", 64), 8, "", false, api.OK}, {repeat("*", 64), repeat("*", 63) + "a", 8, "a", true, api.OK}, {repeat("*", 63) + "a", repeat("*", 63) + "b", 8, "", false, api.OK}, {repeat("*?", 32), "*", 8, "", false, api.OK}, {repeat("*?", 8), repeat("?*", 7), 8, "!!!!!!!!", true, api.OK}, {repeat("*a", 4), repeat("*b", 4), 8, "", false, api.OK}, {repeat("*a", 4) + "*", repeat("*b", 4), 8, "aaaabbbb", true, api.OK},
		{"a", "a", 9, "", false, api.ErrRange}, {"a", "a", -1, "", false, api.ErrRange}, {"*", "*", math.MaxInt, "", false, api.ErrRange}, {"*", "*", math.MinInt, "", false, api.ErrRange}, {"a", "b", 9, "", false, api.ErrRange}, {"", "", 9, "", false, api.ErrRange},
		{"a", "[", 8, "", false, api.ErrArgument}, {"[", "a", 8, "", false, api.ErrArgument}, {"a", "[", 9, "", false, api.ErrArgument}, {"[", "a", -1, "", false, api.ErrArgument}, {"]", "]", 9, "", false, api.ErrArgument}, {repeat("*", 65), "*", 8, "", false, api.ErrArgument}, {"*", repeat("*", 65), 8, "", false, api.ErrArgument}, {" ", " ", 1, "", false, api.ErrArgument},
	} {
		for _, p := range [][2]string{{c.p, c.q}, {c.q, c.p}} {
			if w, is, e := glob.Common(p[0], p[1], c.most); w != c.w || is != c.is || e != c.e {
				t.Errorf("case %d: Common(%q, %q, %d): %q, %v, %d", i, p[0], p[1], c.most, w, is, e)
			}
		}
	}
}

// P7.5 for pairs of short patterns: the common string matches both of them, and no string before it does.
func TestCommon(t *testing.T) {
	all := samples.Strings("!ab", 4)
	found := map[string][]bool{}
	short := valid(append(samples.Strings("ab?*", 3), "[ab]", "[ab]a", "*[ba]", "[b]*[ab]", "*[ab]b*", "[ab][ab]?", "b*[ab]a", "*[ab]*a", "?*[b!]", "!*b", "[ab]?*[ab]?"))
	for _, p := range short {
		for _, w := range all {
			found[p] = append(found[p], match(t, p, w))
		}
	}
	seen := map[bool]int{}
	for _, p := range short {
		for _, q := range short {
			most := (len(p) + 3*len(q)) % 5
			want, has := "", false
			for i, w := range all {
				if len(w) <= most && found[p][i] && found[q][i] {
					want, has = w, true
					break
				}
			}
			if w, is, e := glob.Common(p, q, most); w != want || is != has || e != api.OK {
				t.Errorf("P7.5: Common(%q, %q, %d): %q, %v, %d, not %q", p, q, most, w, is, e, want)
			}
			seen[has]++
		}
	}
	if seen[true] < 1000 || seen[false] < 1000 {
		t.Errorf("the pairs are one-sided: %v", seen)
	}
}

// randomPair returns two patterns of few characters, so that not too many strings are to be looked at.
func randomPair(r *rand.Rand) (string, string) {
	elements := []string{"a", "b", "[ab]", "?", "*", "*", "[b]"}
	pair := [2]string{}
	for i := range pair {
		for range r.Intn(10) {
			pair[i] += elements[r.Intn(len(elements))]
		}
	}
	return pair[0], pair[1]
}

// P7.1 and P7.5 for random patterns.
func TestRandomCommon(t *testing.T) {
	r := rand.New(rand.NewSource(6))
	seen := map[int]int{}
	for i := range 1000 {
		p, q := randomPair(r)
		most := r.Intn(8)
		if i%2 == 0 {
			p, q = randomPattern(r, 6), randomPattern(r, 6)
			most = r.Intn(4)
		}
		if len(chosenChars(p, q)) > 10 {
			continue
		}
		w, is, e := glob.Common(p, q, most)
		if want, has, f := wantedCommon(p, q, most); w != want || is != has || e != f {
			t.Errorf("Common(%q, %q, %d): %q, %v, %d, not %q", p, q, most, w, is, e, want)
		}
		if is && (!match(t, p, w) || !match(t, q, w)) {
			t.Errorf("P7.5: %q does not match both %q and %q", w, p, q)
		}
		if is {
			seen[len(w)]++
		} else {
			seen[-1]++
		}
	}
	for n := -1; n <= 6; n++ {
		if seen[n] < 10 {
			t.Errorf("the patterns are one-sided: %v", seen)
		}
	}
}

// P7.1 and P7.6 for lists by hand.
func TestFilterByHand(t *testing.T) {
	full := slices.Repeat([]string{"a", "b"}, 2048)
	long := repeat("a", 65)
	for i, c := range []struct {
		p       string
		l, want []string
		e       api.Errno
	}{
		{"*us", []string{"deus", "dei", "us", "deus"}, []string{"deus", "us", "deus"}, api.OK}, {"*", nil, nil, api.OK}, {"", nil, nil, api.OK}, {"", []string{"a", "", "b", ""}, []string{"", ""}, api.OK}, {"*", []string{"b", "a", "", "b"}, []string{"b", "a", "", "b"}, api.OK}, {"c", []string{"b", "a"}, nil, api.OK}, {"?", []string{"\xff", "é", "[", "ab", "a"}, []string{"\xff", "[", "a"}, api.OK}, {"[ab]", full, full, api.OK}, {"[c]", full, nil, api.OK}, {"*", []string{repeat("b", 64)}, []string{repeat("b", 64)}, api.OK},
		{"b", full, slices.Repeat([]string{"b"}, 2048), api.OK}, {"b", append(full[:4096:4096], "b"), nil, api.ErrLimit}, {"b", make([]string, 4097), nil, api.ErrLimit}, {"b", slices.Repeat([]string{" "}, 4097), nil, api.ErrLimit}, {"b", append([]string{" "}, full...), nil, api.ErrLimit}, {"b", append(full[:4095:4095], " "), nil, api.ErrChar}, {"b", append(full[:4095:4095], long), nil, api.ErrLimit},
		// The first element that has an error has it, also where an element before it matches, or none does.
		{"*", []string{"a", "b c", long}, nil, api.ErrChar}, {"*", []string{"a", long, "b c"}, nil, api.ErrLimit}, {"a", []string{"a", "b", " "}, nil, api.ErrChar}, {"x", []string{" ", "a"}, nil, api.ErrChar}, {"x", []string{long}, nil, api.ErrLimit}, {"x", []string{repeat(" ", 65), " "}, nil, api.ErrLimit}, {"x", []string{repeat(" ", 64), long}, nil, api.ErrChar},
		{"[", make([]string, 4097), nil, api.ErrArgument}, {"[", nil, nil, api.ErrArgument}, {"a b", []string{"a b", long}, nil, api.ErrArgument}, {long, []string{"a"}, nil, api.ErrArgument},
	} {
		check := samples.Unchanged(t, c.l)
		if l, e := glob.Filter(c.p, c.l); !slices.Equal(l, c.want) || e != c.e {
			t.Errorf("case %d: Filter(%q): %d elements, %d", i, c.p, len(l), e)
		}
		if l, e := wantedFilter(c.p, c.l); !slices.Equal(l, c.want) || e != c.e {
			t.Errorf("case %d: wanted for %q: %d elements, %d", i, c.p, len(l), e)
		}
		check()
	}
}

// P7.1 and P7.6 for random patterns and lists.
func TestFilter(t *testing.T) {
	r := rand.New(rand.NewSource(7))
	kept, seen := 0, map[api.Errno]int{}
	for i := range 3000 {
		p := randomPattern(r, 8)
		var l []string
		for range r.Intn(8) {
			l = append(l, randomFrom(r, p))
		}
		if i%10 == 0 {
			l = append(l, []string{" ", "a b", repeat("b", 65)}[r.Intn(3)], "ab")
		}
		check := samples.Unchanged(t, l)
		some, e := glob.Filter(p, l)
		if want, f := wantedFilter(p, l); !slices.Equal(some, want) || e != f {
			t.Errorf("Filter(%q, %q): %q, %d", p, l, some, e)
		}
		again, f := glob.Filter(p, some)
		if !slices.Equal(again, some) || f != api.OK {
			t.Errorf("P7.6: Filter(%q, %q): %q, %d", p, some, again, f)
		}
		if e == api.OK {
			var matching []string
			for _, w := range l {
				if match(t, p, w) {
					matching = append(matching, w)
				}
			}
			if !slices.Equal(some, matching) {
				t.Errorf("P7.6: Filter(%q, %q): %q", p, l, some)
			}
		}
		check()
		kept += len(some)
		seen[e]++
	}
	if kept < 2000 || seen[api.OK] < 2000 || seen[api.ErrChar] < 50 || seen[api.ErrLimit] < 50 {
		t.Errorf("the lists are one-sided: %d, %v", kept, seen)
	}
}

// P7.1: what is no pattern is the first error of each function, and all other results are zero.
func TestWrongPatterns(t *testing.T) {
	for _, p := range wrong() {
		if e := glob.Check(p); e == api.OK || e == api.ErrArgument {
			t.Errorf("Check(%q): %d", p, e)
		}
		checkPattern(t, p)
		for _, w := range []string{"", "a", p, "a b", repeat("a", 65), repeat(" ", 65)} {
			if is, e := glob.Match(p, w); is || e != api.ErrArgument {
				t.Errorf("Match(%q, %q): %v, %d", p, w, is, e)
			}
			for _, l := range [][]string{nil, {w}, {"a", w}, make([]string, 4097)} {
				if some, e := glob.Filter(p, l); len(some) != 0 || e != api.ErrArgument {
					t.Errorf("Filter(%q, ..): %q, %d", p, some, e)
				}
			}
		}
		for _, q := range append(wrong(), "", "a", "*", "?[ab]") {
			for _, most := range []int{-1, 0, 8, 9} {
				if w, is, e := glob.Common(p, q, most); w != "" || is || e != api.ErrArgument {
					t.Errorf("Common(%q, %q, %d): %q, %v, %d", p, q, most, w, is, e)
				}
				if w, is, e := glob.Common(q, p, most); w != "" || is || e != api.ErrArgument {
					t.Errorf("Common(%q, %q, %d): %q, %v, %d", q, p, most, w, is, e)
				}
			}
		}
	}
}

// P7.1: results are new memory.
func TestResultsAreNew(t *testing.T) {
	l := []string{"a", "b", "a"}
	check := samples.Unchanged(t, l)
	for _, p := range []string{"*", "a", "[ab]"} {
		some, _ := glob.Filter(p, l)
		other, _ := glob.Filter(p, l)
		stays := samples.Unchanged(t, other)
		for i := range some {
			some[i] = "x"
		}
		_ = append(some[:0], "y", "z")
		stays()
		check()
	}
}
