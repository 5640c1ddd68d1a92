package markup_test

import (
	"fmt"
	"maps"
	"math"
	"math/rand"
	"regexp"
	"slices"
	"strings"
	"testing"

	"apograph/api"
	"apograph/charset"
	"apograph/markup"
	"apograph/samples"
)

// The functions down to wantedStrip restate the chapter's definitions in another way than the package does: strings are divided, and tags read, with regular expressions, and tags that are closed directly behind their opening are taken out until none is left.

const (
	maxText  = 65536
	maxDepth = 16
)

// tagForm is how tags of a kind are written, with the name and the value as groups.
type tagForm struct {
	kind int
	form *regexp.Regexp
}

var (
	part     = regexp.MustCompile(`<[^>]*>|<[^>]*|[^<]+`)
	named    = regexp.MustCompile(`^</?([^ />]*)`)
	anyTag   = regexp.MustCompile(`<[^>]*>`)
	accepted = regexp.MustCompile(`^([A-Za-z][\^~%]*|[0-9'.,;:!?() -])*$`)
	forms    = []tagForm{
		{4, regexp.MustCompile(`^<(lb|v)()/>$`)},
		{4, regexp.MustCompile(`^<(pb|sec) ([A-Za-z0-9]{1,16})/>$`)},
		{4, regexp.MustCompile(`^<(gap) ([1-9]|[1-5][0-9]|6[0-4])/>$`)},
		{2, regexp.MustCompile(`^<(unclear)()>$`)},
		{2, regexp.MustCompile(`^<(add|del) ([1-8])>$`)},
		{2, regexp.MustCompile(`^<(ab) ((?:[A-Za-z][\^~%]*|[0-9])(?:[A-Za-z][\^~%]*|[0-9'])*)>$`)},
		{2, regexp.MustCompile(`^<(name) ([A-Za-z0-9]{1,16})>$`)},
		{3, regexp.MustCompile(`^</(unclear|add|del|ab|name)()>$`)},
	}
	// The names of tags, and of which kinds they are.
	emptyNames = []string{"gap", "lb", "pb", "sec", "v"}
	pairNames  = []string{"ab", "add", "del", "name", "unclear"}
)

func isAccepted(s string) bool { return len(s) <= maxText && accepted.MatchString(s) }

// asTag returns the tag that is written as s, without its offset, and whether it is one.
func asTag(s string) (api.Lexeme, bool) {
	for _, f := range forms {
		if m := f.form.FindStringSubmatch(s); m != nil && (m[1] != "ab" || len(m[2]) <= 64) {
			return api.Lexeme{Kind: f.kind, Name: m[1], Value: m[2]}, true
		}
	}
	return api.Lexeme{}, false
}

func wantedScan(s string) ([]api.Lexeme, api.Errno) {
	if len(s) > maxText {
		return nil, api.ErrLimit
	}
	var l []api.Lexeme
	for _, m := range part.FindAllStringIndex(s, -1) {
		p := s[m[0]:m[1]]
		x, isTag := asTag(p)
		switch {
		case p[0] != '<' && !isAccepted(p):
			return nil, api.ErrChar
		case p[0] != '<':
			x = text(p)
		case p[len(p)-1] != '>':
			return nil, api.ErrSyntax
		case !slices.Contains(emptyNames, named.FindStringSubmatch(p)[1]) && !slices.Contains(pairNames, named.FindStringSubmatch(p)[1]):
			return nil, api.ErrTag
		case !isTag:
			return nil, api.ErrSyntax
		}
		x.At = m[0]
		l = append(l, x)
	}
	return l, api.OK
}

// printed returns the characters of a lexeme, whatever is in it.
func printed(x api.Lexeme) string {
	if x.Kind == 1 {
		return x.Value
	}
	between := ""
	if x.Value != "" {
		between = " "
	}
	return fmt.Sprintf([]string{"<%s%s%s>", "</%s%s%s>", "<%s%s%s/>"}[x.Kind-2], x.Name, between, x.Value)
}

func wantedCheck(l []api.Lexeme) api.Errno {
	length := 0
	for i, x := range l {
		if e := wantedError(l[:i], x, length); e != api.OK {
			return e
		}
		length += len(printed(x))
	}
	if length > maxText {
		return api.ErrLimit
	}
	return api.OK
}

// wantedError returns the error of a lexeme behind other ones, which have this many characters.
func wantedError(before []api.Lexeme, x api.Lexeme, length int) api.Errno {
	names := [][]string{{""}, pairNames, pairNames, emptyNames}
	if x.Kind < 1 || 4 < x.Kind {
		return api.ErrKind
	}
	if !slices.Contains(names[x.Kind-1], x.Name) {
		return api.ErrTag
	}
	read, isTag := asTag(printed(x))
	read.At = x.At
	isText := x.Kind == 1
	switch {
	case isText && x.Value == "":
		return api.ErrEmpty
	case isText && !isAccepted(x.Value):
		return api.ErrChar
	case isText && len(before) > 0 && before[len(before)-1].Kind == 1:
		return api.ErrOrder
	case !isText && (!isTag || read != x):
		return api.ErrSyntax
	case x.At != length:
		return api.ErrMismatch
	}
	return api.OK
}

func wantedPrint(l []api.Lexeme) (string, api.Errno) {
	if wantedCheck(l) != api.OK {
		return "", api.ErrArgument
	}
	return joined(l), api.OK
}

// joined returns the characters of lexemes, one after the other.
func joined(l []api.Lexeme) string {
	var s strings.Builder
	for _, x := range l {
		s.WriteString(printed(x))
	}
	return s.String()
}

// rest returns the tags that are left of a part of a list if those that are closed directly behind their opening are taken out.
func rest(l []api.Lexeme) []string {
	var tags string
	for _, x := range l {
		tags += map[int]string{2: "<" + x.Name + ">", 3: "</" + x.Name + ">"}[x.Kind]
	}
	for before := "-"; before != tags; {
		before = tags
		for _, name := range pairNames {
			tags = strings.ReplaceAll(tags, "<"+name+"></"+name+">", "")
		}
	}
	return anyTag.FindAllString(tags, -1)
}

func isClosing(tag string) bool { return strings.HasPrefix(tag, "</") }

func wantedNested(l []api.Lexeme) api.Errno {
	if wantedCheck(l) != api.OK {
		return api.ErrArgument
	}
	for i := range l {
		tags := rest(l[:i+1])
		switch {
		case slices.ContainsFunc(tags, isClosing):
			return api.ErrTag
		case len(tags) > maxDepth:
			return api.ErrLimit
		}
	}
	if len(rest(l)) > 0 {
		return api.ErrTag
	}
	return api.OK
}

// depth returns how many tags are open at most in a nested list.
func depth(l []api.Lexeme) int {
	most := 0
	for i := range l {
		most = max(most, len(rest(l[:i+1])))
	}
	return most
}

// owners returns for each character of a valid list the index of its lexeme.
func owners(l []api.Lexeme) []int {
	var all []int
	for i, x := range l {
		all = append(all, slices.Repeat([]int{i}, len(printed(x)))...)
	}
	return all
}

func wantedFind(l []api.Lexeme, offset int) (int, api.Errno) {
	if wantedCheck(l) != api.OK {
		return 0, api.ErrArgument
	}
	all := owners(l)
	if offset < 0 || offset >= len(all) {
		return 0, api.ErrRange
	}
	return all[offset], api.OK
}

func wantedStrip(s string) (string, api.Errno) {
	if _, e := wantedScan(s); e != api.OK {
		return "", e
	}
	return anyTag.ReplaceAllString(s, ""), api.OK
}

// text, open, end and empty return lexemes at 0.
func text(s string) api.Lexeme           { return api.Lexeme{Kind: 1, Value: s} }
func open(name, value string) api.Lexeme { return api.Lexeme{Kind: 2, Name: name, Value: value} }
func end(name string) api.Lexeme         { return api.Lexeme{Kind: 3, Name: name} }
func empty(name, value string) api.Lexeme {
	return api.Lexeme{Kind: 4, Name: name, Value: value}
}

// placed returns the lexemes with the offsets that they have one after the other.
func placed(l ...api.Lexeme) []api.Lexeme {
	out := slices.Clone(l)
	at := 0
	for i := range out {
		out[i].At = at
		if 1 <= out[i].Kind && out[i].Kind <= 4 {
			at += len(printed(out[i]))
		}
	}
	return out
}

// moved returns the lexemes with offsets that are greater by n.
func moved(l []api.Lexeme, n int) []api.Lexeme {
	out := slices.Clone(l)
	for i := range out {
		out[i].At += n
	}
	return out
}

// at returns a lexeme at an offset.
func at(x api.Lexeme, offset int) api.Lexeme {
	x.At = offset
	return x
}

// times returns a string n times.
func times(n int, s string) string { return strings.Repeat(s, n) }

// nest returns a string within n tags.
func nest(n int, s string) string { return times(n, "<unclear>") + s + times(n, "</unclear>") }

// checkString checks what Scan and Strip return for s, and that its lexemes are those of s. P9.1, P9.2 and P9.5.
func checkString(t *testing.T, s string) api.Errno {
	t.Helper()
	l, e := markup.Scan(s)
	if want, f := wantedScan(s); !slices.Equal(l, want) || e != f {
		t.Fatalf("P9.1: Scan(%.200q): %.300v, %d, not %.300v, %d", s, l, e, want, f)
	}
	stripped, f := markup.Strip(s)
	if want, g := wantedStrip(s); stripped != want || f != g {
		t.Fatalf("P9.1: Strip(%.200q): %.200q, %d, not %.200q, %d", s, stripped, f, want, g)
	}
	if e != api.OK {
		return e
	}
	if f := markup.Check(l); f != api.OK {
		t.Fatalf("P9.2: Check of the lexemes of %.200q: %d", s, f)
	}
	if p, f := markup.Print(l); p != s || f != api.OK {
		t.Fatalf("P9.2: Print of the lexemes of %.200q: %.200q, %d", s, p, f)
	}
	if strings.ContainsAny(stripped, "<>") || charset.Check(stripped) != api.OK {
		t.Fatalf("P9.5: Strip(%.200q): %.200q", s, stripped)
	}
	return e
}

// checkList checks what Check, Print, Nested and Find return for l, and that it is made of the string that is printed. P9.1, P9.2 and P9.3.
func checkList(t *testing.T, l []api.Lexeme) api.Errno {
	t.Helper()
	check := samples.Unchanged(t, l)
	e := markup.Check(l)
	if want := wantedCheck(l); e != want {
		t.Fatalf("P9.1: Check(%.300v): %d, not %d", l, e, want)
	}
	s, f := markup.Print(l)
	if want, g := wantedPrint(l); s != want || f != g {
		t.Fatalf("P9.1: Print(%.300v): %.200q, %d, not %.200q, %d", l, s, f, want, g)
	}
	if f, want := markup.Nested(l), wantedNested(l); f != want {
		t.Fatalf("P9.1: Nested(%.300v): %d, not %d", l, f, want)
	}
	for _, offset := range []int{math.MinInt, -1, 0, 1, len(s) / 2, len(s) - 1, len(s), len(s) + 1, math.MaxInt} {
		i, f := markup.Find(l, offset)
		if want, g := wantedFind(l, offset); i != want || f != g {
			t.Fatalf("P9.3: Find(%.300v, %d): %d, %d, not %d, %d", l, offset, i, f, want, g)
		}
	}
	check()
	if e != api.OK {
		return e
	}
	if back, f := markup.Scan(s); !slices.Equal(back, l) || f != api.OK {
		t.Fatalf("P9.2: Scan(Print(%.300v)): %.300v, %d", l, back, f)
	}
	return e
}

// scan returns the lexemes of a marked-up string.
func scan(t *testing.T, s string) []api.Lexeme {
	t.Helper()
	l, e := markup.Scan(s)
	if e != api.OK {
		t.Fatalf("Scan(%.200q): %d", s, e)
	}
	return l
}

// The example of the chapter.
func TestExample(t *testing.T) {
	want := []api.Lexeme{at(text("de"), 0), at(open("add", "1"), 2), at(text("us"), 9), at(end("add"), 11), at(empty("lb", ""), 17)}
	l := scan(t, "de<add 1>us</add><lb/>")
	if !slices.Equal(l, want) {
		t.Error(l)
	}
	if s, e := markup.Strip("de<add 1>us</add><lb/>"); s != "deus" || e != api.OK {
		t.Errorf("%q, %d", s, e)
	}
	if e := markup.Nested(l); e != api.OK {
		t.Error(e)
	}
}

// tagged are all tags, each in each of its forms, with the least and the greatest values.
func tagged() map[string]api.Lexeme {
	all := map[string]api.Lexeme{
		"<lb/>": empty("lb", ""), "<v/>": empty("v", ""),
		"<pb 12v/>": empty("pb", "12v"), "<pb 1/>": empty("pb", "1"), "<pb 0123456789abcdef/>": empty("pb", "0123456789abcdef"), "<sec I/>": empty("sec", "I"), "<sec sec/>": empty("sec", "sec"), "<sec ABCDEFGHIJKLMNOZ/>": empty("sec", "ABCDEFGHIJKLMNOZ"),
		"<unclear>": open("unclear", ""), "</unclear>": end("unclear"), "</add>": end("add"), "</del>": end("del"), "</ab>": end("ab"), "</name>": end("name"),
		"<ab dns>": open("ab", "dns"), "<ab 1>": open("ab", "1"), "<ab qu'e^~%'>": open("ab", "qu'e^~%'"), "<ab ab>": open("ab", "ab"), "<ab " + times(64, "x") + ">": open("ab", times(64, "x")), "<ab a" + times(63, "^") + ">": open("ab", "a"+times(63, "^")),
		"<name Roma>": open("name", "Roma"), "<name 0>": open("name", "0"), "<name " + times(16, "z") + ">": open("name", times(16, "z")),
	}
	for n := 1; n <= 64; n++ {
		all[fmt.Sprintf("<gap %d/>", n)] = empty("gap", fmt.Sprint(n))
	}
	for n := 1; n <= 8; n++ {
		all[fmt.Sprintf("<add %d>", n)] = open("add", fmt.Sprint(n))
		all[fmt.Sprintf("<del %d>", n)] = open("del", fmt.Sprint(n))
	}
	return all
}

// P9.1 for Scan and Strip: strings that are marked up.
func TestScanByHand(t *testing.T) {
	cases := []struct {
		s     string
		l     []api.Lexeme
		strip string
	}{
		{"", nil, ""}, {" ", placed(text(" ")), " "}, {"deus est.", placed(text("deus est.")), "deus est."}, {"e^~'1.,;:!?()-", placed(text("e^~'1.,;:!?()-")), "e^~'1.,;:!?()-"},
		{"lb", placed(text("lb")), "lb"}, {"a<lb/>b", placed(text("a"), empty("lb", ""), text("b")), "ab"}, {"a<lb/><v/>b", placed(text("a"), empty("lb", ""), empty("v", ""), text("b")), "ab"},
		{"<lb/>", placed(empty("lb", "")), ""}, {"<lb/><lb/>", placed(empty("lb", ""), empty("lb", "")), ""}, {"<lb/> <lb/>", placed(empty("lb", ""), text(" "), empty("lb", "")), " "},
		{"</del></unclear><unclear><del 8>", placed(end("del"), end("unclear"), open("unclear", ""), open("del", "8")), ""},
		{"e^<lb/>e^", placed(text("e^"), empty("lb", ""), text("e^")), "e^e^"}, {"<ab dns>dominus</ab>", placed(open("ab", "dns"), text("dominus"), end("ab")), "dominus"},
		{"<name Roma>Romam</name> <gap 3/> x", placed(open("name", "Roma"), text("Romam"), end("name"), text(" "), empty("gap", "3"), text(" x")), "Romam  x"},
	}
	for s, x := range tagged() {
		cases = append(cases, struct {
			s     string
			l     []api.Lexeme
			strip string
		}{s, placed(x), ""}, struct {
			s     string
			l     []api.Lexeme
			strip string
		}{"a^" + s + "b", placed(text("a^"), x, text("b")), "a^b"})
	}
	for _, c := range cases {
		l, e := markup.Scan(c.s)
		if !slices.Equal(l, c.l) || e != api.OK {
			t.Errorf("Scan(%q): %v, %d", c.s, l, e)
		}
		if s, e := markup.Strip(c.s); s != c.strip || e != api.OK {
			t.Errorf("Strip(%q): %q, %d", c.s, s, e)
		}
		if s, e := markup.Print(c.l); s != c.s || e != api.OK {
			t.Errorf("Print(%v): %q, %d", c.l, s, e)
		}
		if e := markup.Check(c.l); e != api.OK {
			t.Errorf("Check(%v): %d", c.l, e)
		}
		checkString(t, c.s)
		checkList(t, c.l)
	}
}

// P9.1 for Scan and Strip: strings that are not marked up, by their errors.
func TestScanErrors(t *testing.T) {
	cases := map[api.Errno][]string{
		api.ErrChar: {
			">", "a>b", "lb/>", "<lb/>>", "<lb/>a>", "a/b", "/", "_", "a_b", "a\x00", "\n", "\t", "\x7f", "\x80", "\xff", "é", "<lb/>é", "a\"", "[3]", "a=b", "&", "*", "+", "@",
			"^", "^a", "~", "%", " ^", "1^", ".~", "'%", "a ^", "a1^", "a<lb/>^", "a<unclear>^b</unclear>", "<add 1>%", "<lb/>a^<v/>~", "a^<lb/>'^",
			"^<foo/>", "_<", "_<lb", "a_<lb /><>", ">a<foo/>", "a<lb/>_<foo/>^",
		},
		api.ErrSyntax: {
			"<", "a<", "<lb/><", "<lb/", "a<lb/", "<lb", "<foo", "</", "</add", "< ", "<lb/><foo", "<a b", "<\xff", "<^", "<add 1", "a<v/>b<gap 3/", "<<<<", "<lb\x00",
			"<lb>", "</lb>", "<lb //>", "<lb / >", "<lb/ >", "<lb />", "<lb  />", "<lb >", "</lb/>", "</lb />", "<lb//>", "<lb///>", "<lb/x>", "<lb/x/>", "<lb/lb/>", "<lb 1/>", "<lb 1>", "<lb lb/>", "</lb 1>",
			"<v>", "</v>", "<v />", "<v v/>", "<v 1/>", "<v//>",
			"<pb/>", "<pb>", "</pb>", "<pb />", "<pb  />", "<pb 1r>", "</pb 1r>", "<pb  1r/>", "<pb 1r />", "<pb 1r//>", "<pb 1/r/>", "<pb 1 r/>", "<pb 1*/>", "<pb e^/>", "<pb '/>", "<pb a'b/>", "<pb 0123456789abcdefg/>", "<pb /1r/>", "<pb/1r>", "<pb/1r/>", "<pb 1r/ >", "<pb 1-2/>", "<pb \xff/>", "<pb é/>", "<pb .../>",
			"<sec/>", "<sec>", "</sec>", "<sec I>", "<sec  I/>", "<sec I />", "<sec I.1/>", "<sec ABCDEFGHIJKLMNOPQ/>", "<sec I II/>", "<sec I_/>", "<sec I\t/>",
			"<gap/>", "<gap>", "</gap>", "<gap />", "<gap 0/>", "<gap 65/>", "<gap 03/>", "<gap 00/>", "<gap 064/>", "<gap +3/>", "<gap -3/>", "<gap -0/>", "<gap 3>", "</gap 3>", "<gap  3/>", "<gap 3 />", "<gap 3//>", "<gap x/>", "<gap 3x/>", "<gap 0x3/>", "<gap 1_0/>", "<gap 3.0/>", "<gap 1e1/>", "<gap 100/>", "<gap 640/>", "<gap 256/>", "<gap 257/>", "<gap 4294967299/>", "<gap 9223372036854775807/>", "<gap 9223372036854775808/>", "<gap 18446744073709551619/>", "<gap 11111111111111111111111/>", "<gap -1/>", "<gap 3\n/>", "<gap /3/>", "<gap 3 3/>", "<gap '3/>",
			"<unclear/>", "<unclear x>", "<unclear 1>", "<unclear >", "</unclear >", "</unclear x>", "</unclear/>", "<unclear//>", "<unclear />", "<unclear x/>", "<unclear unclear>",
			"<add>", "<add/>", "<add >", "<add />", "<add 0>", "<add 9>", "<add 10>", "<add 11>", "<add 01>", "<add 08>", "<add +1>", "<add -1>", "<add 1/>", "<add 1 >", "<add  1>", "<add 1 1>", "<add x>", "<add 1x>", "</add 1>", "</add >", "</add/>", "</add 1/>", "<add/1>", "<add/ 1>", "<add 1//>", "<add 1/1>", "<add 18446744073709551617>", "<add 4294967297>", "<add 257>", "<add -7>", "</add//>",
			"<del>", "<del/>", "<del 0>", "<del 9>", "<del 10>", "<del 01>", "<del +1>", "<del 8/>", "<del  1>", "<del 1 >", "</del 1>", "</del/>", "<del x>", "<del 99999999999999999999>",
			"<ab>", "<ab/>", "<ab >", "<ab dns/>", "<ab  dns>", "<ab dns >", "<ab a b>", "<ab 'a>", "<ab ^>", "<ab ^a>", "<ab 1^>", "<ab a'^>", "<ab a.>", "<ab a-b>", "<ab .>", "<ab " + times(65, "x") + ">", "<ab a" + times(64, "^") + ">", "</ab dns>", "</ab >", "</ab/>", "<ab/dns>", "<ab a/b>", "<ab a/>", "<ab a<b>", "<ab <lb/>", "<ab é>", "<ab a\x00>",
			"<name>", "<name/>", "<name >", "<name Roma/>", "<name  Roma>", "<name Roma >", "<name e^>", "<name a'b>", "<name 'a>", "<name a b>", "<name " + times(17, "z") + ">", "</name Roma>", "</name/>", "<name a.>", "<name/a>", "<name a/b>",
			"<lb><foo/>", "<lb><lb", "<add 9>^", "a<lb 1/>_", "<lb/>a<v ><foo/>", "<lb >^<",
		},
		api.ErrTag: {
			"<>", "</>", "<//>", "</ >", "< >", "<  >", "< />", "<///>", "<//lb>", "<//add>", "< lb/>", "< /lb>", "</ add>", "< add 1>", "</ /add>",
			"<foo/>", "<foo>", "</foo>", "<foo 1/>", "<lbx/>", "<lb1/>", "<l/>", "<b/>", "<p 1/>", "<pbs 1/>", "<se I/>", "<sect I/>", "<ga 3/>", "<gaps 3/>", "<unclea>", "<unclears>", "<a>", "<ad 1>", "<adds 1>", "</adds>", "<de 1>", "<dell 1>", "<abb dns>", "<nam a>", "<names a>", "<verse/>", "<vv/>",
			"<LB/>", "<Lb/>", "<V/>", "<Pb 1/>", "<SEC I/>", "<Gap 3/>", "<Unclear>", "</ADD>", "<Del 1>", "<AB dns>", "<Name Roma>",
			"<add1>", "<gap3/>", "<pb1r/>", "<lb<v/>", "<<lb/>", "<lb<>", "<lb\n/>", "<\nlb/>", "<lb\t/>", "<add\t1>", "<add\x001>", "<lb\\>", "<lb_/>", "<é/>", "<\xff>", "<lb\xff/>", "<^>", "<1>", "<''>", "<lb^/>", "<lb-/>", "<add=1>", "<!-- a -->", "<?>", "<lb'/>", "<\x00lb/>",
			"<foo/><lb", "<foo/>^", "<foo/><lb>", "a<foo/>_", "<lb/>a<foo ><v", "<foo 1 /><add 9>",
		},
	}
	for want, l := range cases {
		for _, s := range l {
			if l, e := markup.Scan(s); len(l) != 0 || e != want {
				t.Errorf("Scan(%q): %v, %d, not %d", s, l, e, want)
			}
			if p, e := markup.Strip(s); p != "" || e != want {
				t.Errorf("Strip(%q): %q, %d, not %d", s, p, e, want)
			}
			checkString(t, s)
			// What stands before and behind does not matter, if it has no error before.
			checkString(t, "a<lb/>"+s)
			checkString(t, "a<lb/><v/>"+s+"<v/>b")
		}
	}
}

// P9.7: each tag has one form, and there are ten.
func TestOneForm(t *testing.T) {
	values := map[string]string{"lb": "", "v": "", "pb": " 12v", "sec": " I", "gap": " 3", "unclear": "", "add": " 1", "del": " 8", "ab": " dns", "name": " Roma"}
	if len(markup.Tags()) != 10 {
		t.Errorf("%d tags", len(markup.Tags()))
	}
	for _, name := range markup.Tags() {
		value, isTag := values[name]
		if !isTag {
			t.Errorf("%q is no name of a tag", name)
		}
		_, emptyErr := markup.Scan("<" + name + value + "/>")
		_, openErr := markup.Scan("<" + name + value + ">")
		_, closeErr := markup.Scan("</" + name + ">")
		if slices.Contains(emptyNames, name) {
			if emptyErr != api.OK || openErr != api.ErrSyntax || closeErr != api.ErrSyntax {
				t.Errorf("%s: %d, %d, %d", name, emptyErr, openErr, closeErr)
			}
		} else if emptyErr != api.ErrSyntax || openErr != api.OK || closeErr != api.OK {
			t.Errorf("%s: %d, %d, %d", name, emptyErr, openErr, closeErr)
		}
		// Each tag with the values of the other ones, in each form.
		for _, v := range append(slices.Collect(maps.Values(values)), " 9", " 64", " 65", " e^", " a b", " ") {
			for _, form := range []string{"<%s%s/>", "<%s%s>", "</%s%s>", "</%s%s/>", "<%s%s />", "<%s%s >", "</%s%s >", "<%s %s/>", "<%s %s>", "< %s%s>", "<%s%s//>", "<//%s%s>"} {
				checkString(t, fmt.Sprintf(form, name, v))
			}
		}
	}
}

func TestTags(t *testing.T) {
	want := []string{"ab", "add", "del", "gap", "lb", "name", "pb", "sec", "unclear", "v"}
	l := markup.Tags()
	if !slices.Equal(l, want) || !slices.IsSorted(l) {
		t.Error(l)
	}
	// R3 and LANGUAGE 7: what is returned is new.
	l[0] = "x"
	if l := markup.Tags(); !slices.Equal(l, want) {
		t.Error(l)
	}
	if _, e := markup.Scan("<ab a>"); e != api.OK {
		t.Error(e)
	}
}

// sequences returns all strings of at most most of the pieces.
func sequences(most int, pieces ...string) []string {
	var all []string
	for _, s := range samples.Strings("abcdefghijklmnopqrstuvwxyz"[:len(pieces)], most) {
		var b strings.Builder
		for _, c := range s {
			b.WriteString(pieces[c-'a'])
		}
		all = append(all, b.String())
	}
	return all
}

// P9.1, P9.2 and P9.5 for all short strings of characters, and of pieces of tags.
func TestScanShort(t *testing.T) {
	counts := map[api.Errno]int{}
	for _, l := range [][]string{
		samples.Strings("<>/v ", 6), samples.Strings("<>/va^ ", 5), samples.Strings("<v/>^_", 5), samples.Strings("<ab 1/>", 5),
		sequences(5, "<", "</", ">", "/>", "lb", " ", "1"), sequences(5, "<", "</", ">", "/>", "add", " ", "1", "9"), sequences(4, "<ab ", "<name ", "<pb ", "a", "'", "^", ">", "/>", "1", " "),
		sequences(5, "<gap ", "0", "1", "6", "4", "5", "/>"), sequences(5, "<add 1>", "</add>", "<v/>", "a", "^", "<lb>", "<x>"), sequences(4, "<unclear", "</unclear", "</name", " ", "/", ">", "a"),
	} {
		for _, s := range l {
			counts[checkString(t, s)]++
		}
	}
	for _, e := range []api.Errno{api.OK, api.ErrChar, api.ErrSyntax, api.ErrTag} {
		if counts[e] < 1000 {
			t.Errorf("%d strings with the error %d", counts[e], e)
		}
	}
}

// P9.1 for each byte: alone, in and around tags, and as a name and a value.
func TestEachByte(t *testing.T) {
	for b := range 256 {
		c := string([]byte{byte(b)})
		for _, s := range []string{c, "a" + c, c + "a", "<" + c + ">", "<" + c + "/>", "</" + c + ">", "<v" + c + "/>", "<" + c + "v/>", "<v/" + c + ">", "<v/>" + c, c + "<v/>", "a<v/>" + c + "<v/>", "<ab " + c + ">", "<ab a" + c + ">", "<ab " + c + "a>", "<pb " + c + "/>", "<sec a" + c + "/>", "<name " + c + "b>", "<name" + c + "b>", "<gap " + c + "/>", "<gap 1" + c + "/>", "<gap" + c + "1/>", "<add " + c + ">", "<del " + c + "1>", "<del" + c + "1>", "</del" + c + ">", "<unclear" + c + ">"} {
			checkString(t, s)
		}
	}
}

// P9.1 for numbers: all of few digits.
func TestNumbers(t *testing.T) {
	for _, n := range samples.Strings("0123456789", 3) {
		for _, form := range []string{"<gap %s/>", "<add %s>", "<del %s>"} {
			checkString(t, fmt.Sprintf(form, n))
		}
	}
	for n := -300; n <= 1100; n++ {
		s := fmt.Sprint(n)
		if _, e := markup.Scan("<gap " + s + "/>"); (e == api.OK) != (1 <= n && n <= 64) {
			t.Errorf("gap %d: %d", n, e)
		}
		if _, e := markup.Scan("<add " + s + ">"); (e == api.OK) != (1 <= n && n <= 8) {
			t.Errorf("add %d: %d", n, e)
		}
		if _, e := markup.Scan("<del " + s + ">"); (e == api.OK) != (1 <= n && n <= 8) {
			t.Errorf("del %d: %d", n, e)
		}
	}
}

// P9.1 for the values of all tags: names and words, and strings that are none.
func TestValues(t *testing.T) {
	counts := map[api.Errno]int{}
	for _, v := range append(samples.Strings("aZ0'^. /", 4), times(15, "a"), times(16, "a"), times(17, "a"), times(63, "a"), times(64, "a"), times(65, "a"), times(16, "0"), times(17, "0"), times(32, "a^"), times(32, "a^")+"~", times(1000, "b")) {
		for _, name := range []string{"ab", "name"} {
			counts[checkString(t, "<"+name+" "+v+">")]++
		}
		for _, name := range []string{"pb", "sec"} {
			counts[checkString(t, "<"+name+" "+v+"/>")]++
		}
		isOK := map[string]bool{"ab": charset.IsWord(v), "name": charset.IsName(v)}
		for name, want := range isOK {
			if e := markup.Check(placed(open(name, v))); (e == api.OK) != want || !want && e != api.ErrSyntax {
				t.Errorf("%s %.100q: %d", name, v, e)
			}
		}
		for _, name := range []string{"pb", "sec"} {
			if e := markup.Check(placed(empty(name, v))); (e == api.OK) != charset.IsName(v) {
				t.Errorf("%s %.100q: %d", name, v, e)
			}
		}
	}
	if counts[api.OK] < 700 || counts[api.ErrSyntax] < 700 {
		t.Error(counts)
	}
}

// P9.1 for the limit of strings: it comes before all other errors.
func TestTextLimit(t *testing.T) {
	for _, c := range []struct {
		s    string
		want api.Errno
	}{
		{times(maxText, "a"), api.OK}, {times(maxText+1, "a"), api.ErrLimit}, {times(maxText/4, "<v/>"), api.OK}, {times(maxText/4, "<v/>") + "a", api.ErrLimit}, {times(maxText/4-1, "<v/>") + "aaaa", api.OK},
		{times(maxText-4, "a") + "<v/>", api.OK}, {times(maxText-3, "a") + "<v/>", api.ErrLimit}, {"<v/>" + times(maxText-4, "a"), api.OK}, {"<v/>" + times(maxText-3, "a"), api.ErrLimit},
		{times(maxText, "<"), api.ErrSyntax}, {times(maxText+1, "<"), api.ErrLimit}, {times(maxText, "_"), api.ErrChar}, {times(maxText+1, "_"), api.ErrLimit}, {times(maxText-2, "_") + "<>", api.ErrChar}, {"<>" + times(maxText-2, "_"), api.ErrTag}, {"<>" + times(maxText-1, "_"), api.ErrLimit}, {"<" + times(maxText-2, "x") + ">", api.ErrTag}, {"<" + times(maxText-1, "x") + ">", api.ErrLimit}, {"<gap " + times(maxText-7, "1") + "/>", api.ErrSyntax}, {"<lb " + times(maxText-5, " ") + ">", api.ErrSyntax},
		{times(maxText-1, "a") + "_", api.ErrChar}, {times(maxText, "a") + "_", api.ErrLimit}, {times(maxText-1, "a") + "<", api.ErrSyntax}, {times(maxText, "a") + "<", api.ErrLimit}, {times(maxText/2, "a^"), api.OK}, {times(maxText/2, "^a"), api.ErrChar}, {times(1<<20, "a"), api.ErrLimit}, {times(1<<20, "\xff"), api.ErrLimit},
	} {
		if e := checkString(t, c.s); e != c.want {
			t.Errorf("%.20q..: %d, not %d", c.s, e, c.want)
		}
	}
}

// P9.1 for Check, and for Print, Nested and Find: lists by their first errors.
func TestCheckByHand(t *testing.T) {
	for i, c := range []struct {
		l    []api.Lexeme
		want api.Errno
	}{
		{nil, api.OK}, {[]api.Lexeme{}, api.OK}, {placed(text("a")), api.OK}, {placed(text("a"), empty("lb", ""), text("b")), api.OK}, {placed(end("add")), api.OK}, {placed(open("ab", "dns"), open("ab", "dns")), api.OK},
		// Each error alone.
		{[]api.Lexeme{{}}, api.ErrKind}, {[]api.Lexeme{{Kind: -1}}, api.ErrKind}, {[]api.Lexeme{{Kind: 5}}, api.ErrKind}, {[]api.Lexeme{{Kind: 5, Name: "lb"}}, api.ErrKind}, {[]api.Lexeme{{Value: "a"}}, api.ErrKind}, {[]api.Lexeme{{Kind: math.MinInt}}, api.ErrKind}, {[]api.Lexeme{{Kind: math.MaxInt}}, api.ErrKind}, {[]api.Lexeme{{Kind: 1<<32 + 1, Value: "a"}}, api.ErrKind}, {[]api.Lexeme{{Kind: -4, Name: "lb"}}, api.ErrKind},
		{[]api.Lexeme{{Kind: 1, Name: "lb", Value: "a"}}, api.ErrTag}, {[]api.Lexeme{{Kind: 1, Name: "x", Value: "a"}}, api.ErrTag}, {[]api.Lexeme{{Kind: 1, Name: " ", Value: "a"}}, api.ErrTag},
		{placed(open("", "")), api.ErrTag}, {placed(end("")), api.ErrTag}, {placed(empty("", "")), api.ErrTag}, {placed(open("foo", "1")), api.ErrTag}, {placed(end("foo")), api.ErrTag}, {placed(empty("foo", "")), api.ErrTag}, {placed(open("Add", "1")), api.ErrTag}, {placed(empty("LB", "")), api.ErrTag}, {placed(empty("l", "")), api.ErrTag}, {placed(empty("lbx", "")), api.ErrTag}, {placed(open("add 1", "")), api.ErrTag}, {placed(empty("lb/", "")), api.ErrTag}, {placed(open("/add", "")), api.ErrTag}, {placed(open("unclear ", "")), api.ErrTag},
		{placed(open("lb", "")), api.ErrTag}, {placed(end("lb")), api.ErrTag}, {placed(open("v", "")), api.ErrTag}, {placed(end("v")), api.ErrTag}, {placed(open("pb", "1")), api.ErrTag}, {placed(end("pb")), api.ErrTag}, {placed(open("sec", "1")), api.ErrTag}, {placed(end("sec")), api.ErrTag}, {placed(open("gap", "1")), api.ErrTag}, {placed(end("gap")), api.ErrTag},
		{placed(empty("unclear", "")), api.ErrTag}, {placed(empty("add", "1")), api.ErrTag}, {placed(empty("del", "1")), api.ErrTag}, {placed(empty("ab", "a")), api.ErrTag}, {placed(empty("name", "a")), api.ErrTag},
		{placed(text("")), api.ErrEmpty}, {placed(text("^")), api.ErrChar}, {placed(text("a_")), api.ErrChar}, {placed(text("a<lb/>")), api.ErrChar}, {placed(text("<lb/>")), api.ErrChar}, {placed(text(">")), api.ErrChar}, {placed(text("\xff")), api.ErrChar}, {placed(empty("lb", ""), text("^")), api.ErrChar}, {placed(text("a"), empty("lb", ""), text("^")), api.ErrChar},
		{placed(text("a"), text("b")), api.ErrOrder}, {placed(empty("lb", ""), text("a"), text("b"), empty("lb", "")), api.ErrOrder}, {placed(text("a"), empty("lb", ""), text("a"), text("a")), api.ErrOrder},
		{placed(empty("lb", "1")), api.ErrSyntax}, {placed(empty("v", "a")), api.ErrSyntax}, {placed(empty("pb", "")), api.ErrSyntax}, {placed(empty("pb", "e^")), api.ErrSyntax}, {placed(empty("sec", "")), api.ErrSyntax}, {placed(empty("sec", "a b")), api.ErrSyntax}, {placed(empty("gap", "")), api.ErrSyntax}, {placed(empty("gap", "0")), api.ErrSyntax}, {placed(empty("gap", "65")), api.ErrSyntax}, {placed(empty("gap", "01")), api.ErrSyntax}, {placed(empty("gap", "+1")), api.ErrSyntax}, {placed(empty("gap", "18446744073709551617")), api.ErrSyntax}, {placed(empty("gap", " 1")), api.ErrSyntax},
		{placed(open("unclear", "x")), api.ErrSyntax}, {placed(open("unclear", " ")), api.ErrSyntax}, {placed(open("add", "")), api.ErrSyntax}, {placed(open("add", "0")), api.ErrSyntax}, {placed(open("add", "9")), api.ErrSyntax}, {placed(open("del", "10")), api.ErrSyntax}, {placed(open("ab", "")), api.ErrSyntax}, {placed(open("ab", "'a")), api.ErrSyntax}, {placed(open("name", "")), api.ErrSyntax}, {placed(open("name", "a'")), api.ErrSyntax},
		{[]api.Lexeme{{Kind: 3, Name: "add", Value: "1"}}, api.ErrSyntax}, {[]api.Lexeme{{Kind: 3, Name: "del", Value: "1"}}, api.ErrSyntax}, {[]api.Lexeme{{Kind: 3, Name: "ab", Value: "a"}}, api.ErrSyntax}, {[]api.Lexeme{{Kind: 3, Name: "name", Value: "a"}}, api.ErrSyntax}, {[]api.Lexeme{{Kind: 3, Name: "unclear", Value: "x"}}, api.ErrSyntax}, {[]api.Lexeme{{Kind: 3, Name: "unclear", Value: " "}}, api.ErrSyntax},
		{[]api.Lexeme{at(text("a"), 1)}, api.ErrMismatch}, {[]api.Lexeme{at(text("a"), -1)}, api.ErrMismatch}, {[]api.Lexeme{at(empty("lb", ""), 5)}, api.ErrMismatch}, {[]api.Lexeme{at(end("add"), math.MaxInt)}, api.ErrMismatch}, {[]api.Lexeme{at(open("add", "1"), math.MinInt)}, api.ErrMismatch}, {[]api.Lexeme{at(text("a"), 1<<32)}, api.ErrMismatch},
		{[]api.Lexeme{empty("lb", ""), at(text("a"), 4)}, api.ErrMismatch}, {[]api.Lexeme{empty("lb", ""), at(text("a"), 6)}, api.ErrMismatch}, {[]api.Lexeme{empty("lb", ""), text("a")}, api.ErrMismatch}, {[]api.Lexeme{open("add", "1"), at(end("add"), 7)}, api.OK}, {[]api.Lexeme{open("add", "1"), at(end("add"), 5)}, api.ErrMismatch}, {[]api.Lexeme{open("add", "1"), at(end("add"), 6)}, api.ErrMismatch}, {[]api.Lexeme{end("add"), at(end("add"), 6)}, api.OK}, {[]api.Lexeme{empty("gap", "3"), at(end("add"), 8)}, api.OK}, {[]api.Lexeme{empty("gap", "3"), at(end("add"), 7)}, api.ErrMismatch}, {[]api.Lexeme{text("e^"), at(end("add"), 1)}, api.ErrMismatch},
		// Several errors of one lexeme: the first one counts.
		{[]api.Lexeme{{Kind: 0, Name: "foo", Value: "_", At: 1}}, api.ErrKind}, {[]api.Lexeme{text("a"), {Kind: 5, Name: "lb", Value: "b", At: 7}}, api.ErrKind},
		{[]api.Lexeme{{Kind: 1, Name: "lb", At: 1}}, api.ErrTag}, {[]api.Lexeme{{Kind: 1, Name: "lb", Value: "_"}}, api.ErrTag}, {[]api.Lexeme{text("a"), {Kind: 1, Name: "x", Value: "a"}}, api.ErrTag}, {[]api.Lexeme{text("a"), text("")}, api.ErrEmpty}, {[]api.Lexeme{text("a"), at(text("^"), 7)}, api.ErrChar}, {[]api.Lexeme{text("a"), at(text("b"), 7)}, api.ErrOrder}, {[]api.Lexeme{text("a"), at(text("b"), 1)}, api.ErrOrder}, {[]api.Lexeme{at(text(""), 1)}, api.ErrEmpty}, {[]api.Lexeme{at(text("_"), 1)}, api.ErrChar},
		{[]api.Lexeme{at(open("lb", "x"), 1)}, api.ErrTag}, {[]api.Lexeme{at(end("foo"), 3)}, api.ErrTag}, {[]api.Lexeme{{Kind: 3, Name: "gap", Value: "1"}}, api.ErrTag}, {[]api.Lexeme{at(open("add", "9"), 1)}, api.ErrSyntax}, {[]api.Lexeme{{Kind: 3, Name: "add", Value: "1", At: 5}}, api.ErrSyntax},
		// Errors of several lexemes: the first lexeme counts.
		{[]api.Lexeme{at(text("a"), 1), {}}, api.ErrMismatch}, {[]api.Lexeme{empty("lb", "1"), {}}, api.ErrSyntax}, {[]api.Lexeme{text("a"), at(text("b"), 1), open("foo", "")}, api.ErrOrder}, {[]api.Lexeme{text(""), text("a"), {}}, api.ErrEmpty}, {[]api.Lexeme{text("_"), text("a")}, api.ErrChar}, {placed(text("a"), empty("lb", "x"), text("")), api.ErrSyntax}, {[]api.Lexeme{empty("lb", ""), at(empty("v", ""), 4), text("")}, api.ErrMismatch}, {[]api.Lexeme{open("lb", ""), {Kind: 9}}, api.ErrTag},
	} {
		if e := checkList(t, c.l); e != c.want {
			t.Errorf("case %d: Check(%.300v): %d, not %d", i, c.l, e, c.want)
		}
		s, e := markup.Print(c.l)
		n := markup.Nested(c.l)
		_, f := markup.Find(c.l, 0)
		if isValid := c.want == api.OK; (e == api.OK) != isValid || !isValid && (s != "" || e != api.ErrArgument || n != api.ErrArgument || f != api.ErrArgument) {
			t.Errorf("case %d: Print, Nested and Find of %.300v: %q, %d, %d, %d", i, c.l, s, e, n, f)
		}
	}
	if s, e := markup.Print(nil); s != "" || e != api.OK {
		t.Errorf("%q, %d", s, e)
	}
}

// P9.1 for the limit of lists: it comes behind all other errors.
func TestListLimit(t *testing.T) {
	lb, v := empty("lb", ""), empty("v", "")
	many := slices.Repeat([]api.Lexeme{v}, maxText/4)
	for i, c := range []struct {
		l    []api.Lexeme
		want api.Errno
	}{
		{placed(text(times(maxText, "a"))), api.OK}, {placed(lb, text(times(maxText-5, "a"))), api.OK}, {placed(lb, text(times(maxText-4, "a"))), api.ErrLimit}, {placed(text(times(maxText-5, "a")), lb), api.OK}, {placed(text(times(maxText-4, "a")), lb), api.ErrLimit}, {placed(text(times(maxText, "a")), lb), api.ErrLimit}, {placed(text(times(maxText, "a")), lb, text(times(maxText, "a"))), api.ErrLimit},
		{placed(many...), api.OK}, {placed(append([]api.Lexeme{text("a")}, many...)...), api.ErrLimit}, {placed(append(slices.Clone(many), many...)...), api.ErrLimit},
		// An error behind comes first, whether in the form of a lexeme or in its offset.
		{placed(text(times(maxText, "a")), lb, text("^")), api.ErrChar}, {placed(text(times(maxText, "a")), lb, empty("lb", "1")), api.ErrSyntax}, {[]api.Lexeme{text(times(maxText, "a")), lb}, api.ErrMismatch}, {append(placed(text(times(maxText, "a")), lb), lb), api.ErrMismatch}, {placed(text(times(maxText, "a")), text("b")), api.ErrOrder}, {placed(text(times(maxText, "a")), api.Lexeme{}), api.ErrKind}, {placed(text(times(maxText, "a")), end("lb")), api.ErrTag}, {placed(text(times(maxText, "a")), lb, text("")), api.ErrEmpty},
		// Characters that are too many are no accepted string.
		{placed(text(times(maxText+1, "a"))), api.ErrChar}, {placed(lb, text(times(maxText+1, "a"))), api.ErrChar},
		// Values that are too long.
		{placed(open("ab", times(maxText, "a"))), api.ErrSyntax}, {placed(open("name", times(maxText+1, "a"))), api.ErrSyntax}, {placed(empty("gap", times(maxText+1, "1"))), api.ErrSyntax}, {placed(empty(times(maxText+1, "a"), "")), api.ErrTag},
	} {
		e := markup.Check(c.l)
		s, f := markup.Print(c.l)
		if e != c.want || e != wantedCheck(c.l) || (f == api.OK) != (e == api.OK) || e != api.OK && (s != "" || f != api.ErrArgument) || e == api.OK && len(s) != maxText {
			t.Errorf("case %d: %d, %d", i, e, f)
		}
		_, f = markup.Find(c.l, maxText-1)
		if (f == api.OK) != (e == api.OK) || e != api.OK && (f != api.ErrArgument || markup.Nested(c.l) != api.ErrArgument) {
			t.Errorf("case %d: Find: %d, Nested: %d", i, f, markup.Nested(c.l))
		}
	}
}

// P9.1 for Nested, by hand.
func TestNestedByHand(t *testing.T) {
	five := "<unclear><add 1><del 2><ab a><name b>"
	closed := "</name></ab></del></add></unclear>"
	for _, c := range []struct {
		s    string
		want api.Errno
	}{
		{"", api.OK}, {"a", api.OK}, {"<lb/>a<gap 3/><pb 1/><sec 1/><v/>", api.OK}, {"<add 1></add>", api.OK}, {"<add 1>a</add><add 1>b</add>", api.OK}, {"<add 1><add 1></add></add>", api.OK}, {"<add 1><add 2></add></add>", api.OK}, {"a<unclear>b<add 1>c<lb/></add>d</unclear>e", api.OK}, {five + closed, api.OK}, {five + five + five + "<unclear>" + "</unclear>" + closed + closed + closed, api.OK},
		{five + five + five + "<unclear><add 1>", api.ErrLimit}, {nest(16, "a"), api.OK}, {nest(17, "a"), api.ErrLimit}, {nest(16, "<lb/>"), api.OK}, {nest(15, "<add 1></add>"), api.OK}, {nest(16, "<add 1></add>"), api.ErrLimit}, {nest(16, "") + nest(16, ""), api.OK}, {times(100, nest(16, "")), api.OK}, {nest(1, nest(15, "")+nest(15, "")), api.OK}, {nest(1, nest(15, "")+nest(16, "")), api.ErrLimit},
		{"<add 1>", api.ErrTag}, {"<unclear>a", api.ErrTag}, {"</add>", api.ErrTag}, {"a</unclear>", api.ErrTag}, {"<add 1></del>", api.ErrTag}, {"<unclear><add 1></unclear></add>", api.ErrTag}, {"<add 1></add></add>", api.ErrTag}, {"</add><add 1>", api.ErrTag}, {"<add 1><add 1></add>", api.ErrTag}, {"<ab a></name>", api.ErrTag}, {five + "</name></ab></add></del></unclear>", api.ErrTag}, {"<del 1><del 1></add></del>", api.ErrTag},
		// Too many are open at a place, or one at the end, or one is closed that is not open: the first one counts.
		{times(16, "<unclear>"), api.ErrTag}, {times(17, "<unclear>"), api.ErrLimit}, {times(17, "<unclear>") + "</add>", api.ErrLimit}, {times(16, "<unclear>") + "</add>", api.ErrTag}, {times(16, "<unclear>") + "</add><unclear><unclear>", api.ErrTag}, {"</add>" + times(17, "<unclear>"), api.ErrTag}, {times(16, "<unclear>") + "</unclear><unclear><unclear>", api.ErrLimit}, {times(16, "<unclear>") + "</unclear><unclear>", api.ErrTag}, {"<unclear>" + nest(16, ""), api.ErrLimit}, {nest(16, "") + "<unclear>", api.ErrTag}, {times(1000, "<add 1>"), api.ErrLimit},
	} {
		l := scan(t, c.s)
		if e := markup.Nested(l); e != c.want {
			t.Errorf("Nested(%.100q): %d, not %d", c.s, e, c.want)
		}
		if len(l) < 200 {
			checkList(t, l)
		}
		// A list that is not valid.
		l = append(l, api.Lexeme{Kind: 4, Name: "lb", At: -1})
		if e := markup.Nested(l); e != api.ErrArgument {
			t.Errorf("Nested of a list that is not valid: %d", e)
		}
	}
}

// P9.1 and P9.3: Find at each character, and before and behind all.
func TestFind(t *testing.T) {
	l := scan(t, "de<lb/>us")
	for i, c := range []struct {
		offset, want int
		e            api.Errno
	}{{0, 0, api.OK}, {1, 0, api.OK}, {2, 1, api.OK}, {3, 1, api.OK}, {6, 1, api.OK}, {7, 2, api.OK}, {8, 2, api.OK}, {9, 0, api.ErrRange}, {10, 0, api.ErrRange}, {-1, 0, api.ErrRange}, {math.MinInt, 0, api.ErrRange}, {math.MaxInt, 0, api.ErrRange}, {1 << 32, 0, api.ErrRange}} {
		if n, e := markup.Find(l, c.offset); n != c.want || e != c.e {
			t.Errorf("case %d: %d, %d", i, n, e)
		}
	}
	for _, offset := range []int{-1, 0, 1, math.MaxInt} {
		if n, e := markup.Find(nil, offset); n != 0 || e != api.ErrRange {
			t.Errorf("Find(nil, %d): %d, %d", offset, n, e)
		}
		if n, e := markup.Find(placed(text("a"), text("b")), offset); n != 0 || e != api.ErrArgument {
			t.Errorf("Find of a list that is not valid, %d: %d, %d", offset, n, e)
		}
	}
	many := scan(t, times(maxText/4, "<v/>"))
	for _, offset := range []int{0, 3, 4, maxText - 5, maxText - 4, maxText - 1} {
		if n, e := markup.Find(many, offset); n != offset/4 || e != api.OK {
			t.Errorf("%d: %d, %d", offset, n, e)
		}
	}
	if n, e := markup.Find(many, maxText); n != 0 || e != api.ErrRange {
		t.Errorf("%d, %d", n, e)
	}
}

// marked returns marked-up strings: short ones of few pieces, and random ones.
func marked() []string {
	all := sequences(3, "a", "e^", " ", "<lb/>", "<gap 3/>", "<add 1>", "</add>", "<unclear>", "</unclear>")
	all = append(all, "deus est.", "'", "<pb 12v/><sec I/>a<v/>b", "<name Roma>Romam</name>", "<ab dns>dominus</ab>")
	r := rand.New(rand.NewSource(1))
	for range 600 {
		all = append(all, randomMarked(r, r.Intn(30)))
	}
	return all
}

// randomMarked returns a marked-up string of n parts.
func randomMarked(r *rand.Rand, n int) string {
	tags := []string{"<lb/>", "<v/>", "<pb 12v/>", "<sec I/>", "<gap 64/>", "<gap 9/>", "<unclear>", "<add 1>", "<add 8>", "<del 2>", "<ab dns>", "<ab qu'e^>", "<name Roma>", "</unclear>", "</add>", "</del>", "</ab>", "</name>"}
	texts := []string{"a", "deus", " ", " est", "e^~", "qu'e", ".", "12", "-", "'", "A%b ", "lb"}
	var s strings.Builder
	for range n {
		if r.Intn(2) == 0 {
			s.WriteString(tags[r.Intn(len(tags))])
		} else {
			s.WriteString(texts[r.Intn(len(texts))])
		}
	}
	return s.String()
}

// P9.1 and P9.2 for random strings, and for ones of which a byte is changed.
func TestScanRandom(t *testing.T) {
	counts := map[api.Errno]int{}
	r := rand.New(rand.NewSource(2))
	for range 20000 {
		s := randomMarked(r, 1+r.Intn(8))
		if e := checkString(t, s); e != api.OK {
			t.Fatalf("%q: %d", s, e)
		}
		for range 1 + r.Intn(2) {
			place := r.Intn(len(s) + 1)
			with := "<>/ abdlnv01689^'_\xff\n"[r.Intn(20):][:1]
			switch r.Intn(3) {
			case 0:
				s = s[:place] + with + s[place:]
			case 1:
				s = s[:place] + s[min(place+1, len(s)):]
			default:
				s = s[:place] + with + s[min(place+1, len(s)):]
			}
		}
		counts[checkString(t, s)]++
	}
	for _, e := range []api.Errno{api.OK, api.ErrChar, api.ErrSyntax, api.ErrTag} {
		if counts[e] < 1000 {
			t.Errorf("%d strings with the error %d", counts[e], e)
		}
	}
}

// P9.1, P9.2 and P9.3 for the lexemes of strings: Find at each character.
func TestLists(t *testing.T) {
	counts := map[api.Errno]int{}
	for _, s := range marked() {
		l := scan(t, s)
		checkList(t, l)
		counts[markup.Nested(l)]++
		all := owners(l)
		if len(all) != len(s) {
			t.Fatalf("P9.3: %q: %d characters", s, len(all))
		}
		for offset, want := range all {
			i, e := markup.Find(l, offset)
			if i != want || e != api.OK {
				t.Fatalf("P9.3: %q, %d: %d, %d", s, offset, i, e)
			}
			// The lexeme begins at or before the character, and the next one, or the end, is behind it.
			next := len(s)
			if i+1 < len(l) {
				next = l[i+1].At
			}
			if l[i].At > offset || offset >= next || printed(l[i]) != s[l[i].At:next] {
				t.Fatalf("P9.3: %q, %d: %v", s, offset, l)
			}
		}
	}
	if counts[api.OK] < 100 || counts[api.ErrTag] < 100 {
		t.Error(counts)
	}
}

// spoil returns a list that is valid with something changed so that, in most cases, it is not.
func spoil(r *rand.Rand, l []api.Lexeme) []api.Lexeme {
	l = slices.Clone(l)
	i := r.Intn(len(l))
	x := &l[i]
	names := append(slices.Concat(emptyNames, pairNames), "", "foo", "LB", "a", "lb ")
	values := []string{"", "a", "e^", "^", "1", "8", "9", "64", "65", "01", "a b", "a'b", "_", "<", " ", times(17, "a"), times(65, "a")}
	switch r.Intn(9) {
	case 0:
		x.Kind = r.Intn(7) - 1
	case 1:
		x.Name = names[r.Intn(len(names))]
	case 2:
		x.Value = values[r.Intn(len(values))]
	case 3:
		x.At += r.Intn(3) - 1
	case 4:
		*x = api.Lexeme{Kind: 1 + r.Intn(4), Name: names[r.Intn(len(names))], Value: values[r.Intn(len(values))], At: x.At}
	case 5:
		l = slices.Delete(l, i, i+1)
	case 6:
		l = slices.Insert(l, i, l[r.Intn(len(l))])
	case 7:
		j := r.Intn(len(l))
		l[i], l[j] = l[j], l[i]
	default:
		l = slices.Insert(l, i, text(values[r.Intn(len(values))]))
	}
	if r.Intn(3) > 0 {
		return placed(l...)
	}
	return l
}

// P9.1 for lists in which something is changed, once or twice.
func TestCheckRandom(t *testing.T) {
	counts := map[api.Errno]int{}
	r := rand.New(rand.NewSource(3))
	for range 30000 {
		l := scan(t, randomMarked(r, 1+r.Intn(8)))
		for range 1 + r.Intn(2) {
			if len(l) > 0 {
				l = spoil(r, l)
			}
		}
		counts[checkList(t, l)]++
	}
	for _, e := range []api.Errno{api.OK, api.ErrKind, api.ErrTag, api.ErrEmpty, api.ErrChar, api.ErrOrder, api.ErrSyntax, api.ErrMismatch} {
		if counts[e] < 300 {
			t.Errorf("%d lists with the error %d", counts[e], e)
		}
	}
}

// P9.1 for each lexeme of few values in each field, alone and behind another one.
func TestCheckEachField(t *testing.T) {
	counts := map[api.Errno]int{}
	befores := [][]api.Lexeme{nil, placed(text("a")), placed(empty("lb", "")), placed(text("a"), end("add")), placed(open("ab", "dns"))}
	for _, before := range befores {
		length := len(joined(before))
		for kind := -1; kind <= 6; kind++ {
			for _, name := range append(slices.Concat(emptyNames, pairNames), "", "foo", "Lb", "ad", "unclear ", "v/") {
				for _, value := range []string{"", "a", "e^", "^a", "1", "8", "9", "64", "65", "01", "a b", "a<lb/>", ">", " ", times(16, "a"), times(17, "a"), times(64, "a"), times(65, "a")} {
					for _, offset := range []int{length, length + 1, length - 1, 0, -1} {
						x := api.Lexeme{Kind: kind, Name: name, Value: value, At: offset}
						l := append(slices.Clone(before), x)
						e := markup.Check(l)
						if want := wantedCheck(l); e != want {
							t.Fatalf("Check(%v): %d, not %d", l, e, want)
						}
						counts[e]++
					}
				}
			}
		}
	}
	for _, e := range []api.Errno{api.OK, api.ErrKind, api.ErrTag, api.ErrEmpty, api.ErrChar, api.ErrOrder, api.ErrSyntax, api.ErrMismatch} {
		if counts[e] < 20 {
			t.Errorf("%d lists with the error %d", counts[e], e)
		}
	}
}

// randomTags returns opening and closing tags, most of which close the last one that is open.
func randomTags(r *rand.Rand, n, most int) string {
	var s strings.Builder
	var opened []string
	for range n {
		name := pairNames[r.Intn(len(pairNames))]
		switch k := r.Intn(100); {
		case k == 0:
			s.WriteString("</" + name + ">")
		case k < 10:
			s.WriteString("a")
		case k < 45 && len(opened) > 0:
			s.WriteString("</" + opened[len(opened)-1] + ">")
			opened = opened[:len(opened)-1]
		case len(opened) < most:
			s.WriteString(map[string]string{"ab": "<ab a>", "add": "<add 1>", "del": "<del 1>", "name": "<name a>", "unclear": "<unclear>"}[name])
			opened = append(opened, name)
		}
	}
	if r.Intn(5) > 0 {
		for _, name := range slices.Backward(opened) {
			s.WriteString("</" + name + ">")
		}
	}
	return s.String()
}

// P9.1 for Nested: all short lists of tags, and random ones.
func TestNested(t *testing.T) {
	counts := map[api.Errno]int{}
	all := append(sequences(6, "<add 1>", "</add>", "<unclear>", "</unclear>"), sequences(5, "<ab a>", "</ab>", "<del 1>", "</del>", "a", "<lb/>")...)
	r := rand.New(rand.NewSource(4))
	for range 1500 {
		all = append(all, randomTags(r, 10+r.Intn(90), 13+r.Intn(9)))
	}
	for _, s := range all {
		l := scan(t, s)
		e := markup.Nested(l)
		if want := wantedNested(l); e != want {
			t.Fatalf("P9.1: Nested of %q: %d, not %d", s, e, want)
		}
		counts[e]++
	}
	for _, e := range []api.Errno{api.OK, api.ErrTag, api.ErrLimit} {
		if counts[e] < 100 {
			t.Errorf("%d lists with the error %d", counts[e], e)
		}
	}
}

// P9.4: the lexemes of two strings, one after the other.
func TestJoining(t *testing.T) {
	all := marked()
	r := rand.New(rand.NewSource(5))
	counts := map[bool]int{}
	for range 20000 {
		a, b := all[r.Intn(len(all))], all[r.Intn(len(all))]
		l, m := scan(t, a), scan(t, b)
		isOneText := len(l) > 0 && len(m) > 0 && l[len(l)-1].Kind == api.TextLexeme && m[0].Kind == api.TextLexeme
		counts[isOneText]++
		both := scan(t, a+b)
		want := slices.Concat(l, moved(m, len(a)))
		if isOneText {
			want = slices.Concat(l, moved(m[1:], len(a)))
			want[len(l)-1].Value += m[0].Value
		}
		if !slices.Equal(both, want) {
			t.Fatalf("P9.4: %q and %q: %v", a, b, both)
		}
		s, _ := markup.Strip(a)
		u, _ := markup.Strip(b)
		if w, e := markup.Strip(a + b); w != s+u || e != api.OK {
			t.Fatalf("P9.4: Strip(%q + %q): %q, %d", a, b, w, e)
		}
	}
	if counts[true] < 1000 || counts[false] < 1000 {
		t.Error(counts)
	}
	// Two strings that are too long together.
	half := times(maxText/8, "<v/>") + times(maxText/2-1, "a")
	if l, e := markup.Scan(half + "a"); len(l) != maxText/8+1 || e != api.OK {
		t.Errorf("%d lexemes, %d", len(l), e)
	}
	if _, e := markup.Scan(half + "<v/>"); e != api.ErrLimit {
		t.Error(e)
	}
	if s, e := markup.Strip(half + "aa"); s != "" || e != api.ErrLimit {
		t.Errorf("%.10q, %d", s, e)
	}
}

// P9.5: accepted strings are their own results, and what is stripped is stripped.
func TestStripping(t *testing.T) {
	count := 0
	for _, s := range append(samples.Strings("aE^1'. ", 5), times(maxText, "a"), times(maxText, " "), times(maxText/2, "e~")) {
		if charset.Check(s) != api.OK {
			continue
		}
		count++
		if stripped, e := markup.Strip(s); stripped != s || e != api.OK {
			t.Errorf("P9.5: Strip(%.100q): %.100q, %d", s, stripped, e)
		}
	}
	if count < 1000 {
		t.Errorf("%d accepted strings", count)
	}
	for _, s := range marked() {
		once, e := markup.Strip(s)
		twice, f := markup.Strip(once)
		if once != twice || e != api.OK || f != api.OK || strings.ContainsAny(once, "<>") {
			t.Errorf("P9.5: Strip(%q): %q, %d; %q, %d", s, once, e, twice, f)
		}
	}
	for _, s := range []string{"<lb/>", "<lb/><v/>", "<add 1></add>", times(maxText/4, "<v/>")} {
		if stripped, e := markup.Strip(s); stripped != "" || e != api.OK {
			t.Errorf("Strip(%.100q): %.100q, %d", s, stripped, e)
		}
	}
}

// P9.6: nested lists one after the other, in further tags, and without one of their tags.
func TestNesting(t *testing.T) {
	var all []string
	for _, s := range marked() {
		if markup.Nested(scan(t, s)) == api.OK {
			all = append(all, s)
		}
	}
	for n := range 17 {
		all = append(all, nest(n, ""), nest(n, "a")+"<lb/>"+nest(16-n, "b"))
	}
	r := rand.New(rand.NewSource(6))
	for range 400 {
		if s := randomTags(r, 40, 16); markup.Nested(scan(t, s)) == api.OK {
			all = append(all, s)
		}
	}
	if len(all) < 300 {
		t.Fatalf("%d nested lists", len(all))
	}
	around := [][2]string{{"<unclear>", "</unclear>"}, {"<add 1>", "</add>"}, {"<del 8>", "</del>"}, {"<ab dns>", "</ab>"}, {"<name Roma>", "</name>"}}
	tooDeep := 0
	for i, a := range all {
		b := all[r.Intn(len(all))]
		if e := markup.Nested(scan(t, a+b)); e != api.OK {
			t.Errorf("P9.6: %q and %q: %d", a, b, e)
		}
		want := api.OK
		if depth(scan(t, a)) == maxDepth {
			want = api.ErrLimit
			tooDeep++
		}
		pair := around[i%len(around)]
		if e := markup.Nested(scan(t, pair[0]+a+pair[1])); e != want {
			t.Errorf("P9.6: %s%q%s: %d", pair[0], a, pair[1], e)
		}
		l := scan(t, a)
		for j, x := range l {
			without := slices.Delete(slices.Clone(l), j, j+1)
			if (x.Kind == api.OpenLexeme || x.Kind == api.CloseLexeme) && markup.Nested(scan(t, joined(without))) == api.OK {
				t.Errorf("P9.6: %q without its lexeme %d", a, j)
			}
		}
	}
	if tooDeep < 5 {
		t.Errorf("%d lists of the greatest depth", tooDeep)
	}
}

// LANGUAGE 7: results are new memory.
func TestResultsAreNew(t *testing.T) {
	s := "de<add 1>us</add><lb/>"
	l := scan(t, s)
	for i := range l {
		l[i] = api.Lexeme{}
	}
	if again := scan(t, s); markup.Check(again) != api.OK || joined(again) != s {
		t.Error(again)
	}
}
