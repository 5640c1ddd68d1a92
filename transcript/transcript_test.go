package transcript_test

import (
	"encoding/xml"
	"fmt"
	"math"
	"math/rand"
	"reflect"
	"regexp"
	"slices"
	"strconv"
	"strings"
	"testing"

	"apograph/api"
	"apograph/markup"
	"apograph/samples"
	"apograph/transcript"
)

// The functions down to wantedSame restate the chapter's definitions in another way than the package does: the nodes of a list are found level by level, and sorted by their paths; strings are turned into XML, and read by a reader of XML; nodes are merged one by one; lists are compared by a text of all their fields.

const (
	maxText  = 65536
	maxNode  = 4096
	maxDepth = 16
)

// place is where a node stands: the indices that lead to it, and the list that it is in.
type place struct {
	path []int
	list []api.Node
}

func (p place) index() int { return p.path[len(p.path)-1] }

func (p place) node() api.Node { return p.list[p.index()] }

// places returns the places of all nodes of l, in their order.
func places(l []api.Node) []place {
	var all []place
	level := []place{{nil, l}} // lists, with the paths of the nodes whose Parts they are
	for len(level) > 0 {
		var next []place
		for _, q := range level {
			for i, n := range q.list {
				path := append(slices.Clone(q.path), i)
				all = append(all, place{path, q.list})
				if len(n.Parts) > 0 {
					next = append(next, place{path, n.Parts})
				}
			}
		}
		level = next
	}
	slices.SortFunc(all, func(p, q place) int { return slices.Compare(p.path, q.path) })
	return all
}

var (
	// The fields of each kind.
	fieldsOf = []string{"", "T", "", "T", "T", "", "N", "P", "NP", "NP", "TP", "TP"}
	tagOf    = []string{"", "", "lb", "pb", "sec", "v", "gap", "unclear", "add", "del", "ab", "name"}

	accepted  = regexp.MustCompile(`^([A-Za-z][\^~%]*|[0-9'.,;:!?() -])*$`)
	nameForm  = regexp.MustCompile(`^[A-Za-z0-9]{1,16}$`)
	wordForm  = regexp.MustCompile(`^([A-Za-z][\^~%]*|[0-9])([A-Za-z][\^~%]*|[0-9'])*$`)
	gapForm   = regexp.MustCompile(`^([1-9]|[1-5][0-9]|6[0-4])$`)
	handForm  = regexp.MustCompile(`^[1-8]$`)
	anyTag    = regexp.MustCompile(`<[^>]*>`)
	valueForm = regexp.MustCompile(`<([a-z]+) ([^/>]*)(/?)>`)
)

// fields returns the letters of the fields of n that are not zero.
func fields(n api.Node) string {
	var s string
	if n.Text != "" {
		s += "T"
	}
	if n.Number != 0 {
		s += "N"
	}
	if len(n.Parts) > 0 {
		s += "P"
	}
	return s
}

// wantedError returns the first error of the node at p.
func wantedError(p place) api.Errno {
	n := p.node()
	if n.Kind < 1 || n.Kind > 11 || strings.Trim(fields(n), fieldsOf[n.Kind]) != "" {
		return api.ErrKind
	}
	has := fieldsOf[n.Kind]
	number := strconv.Itoa(n.Number)
	isName := nameForm.MatchString(n.Text)
	if n.Kind == 10 {
		isName = wordForm.MatchString(n.Text) && len(n.Text) <= 64
	}
	switch {
	case n.Kind == 1 && n.Text == "", strings.Contains(has, "P") && len(n.Parts) == 0:
		return api.ErrEmpty
	case n.Kind == 1 && (len(n.Text) > maxText || !accepted.MatchString(n.Text)):
		return api.ErrChar
	case n.Kind != 1 && strings.Contains(has, "T") && !isName:
		return api.ErrName
	case n.Kind == 6 && !gapForm.MatchString(number), has == "NP" && !handForm.MatchString(number):
		return api.ErrRange
	case n.Kind == 1 && p.index() > 0 && p.list[p.index()-1].Kind == 1:
		return api.ErrOrder
	case n.Kind == 4 && len(p.path) > 1:
		return api.ErrTag
	}
	return api.OK
}

// marked returns what nodes whose kinds are right are marked up as.
func marked(l []api.Node) string {
	var s strings.Builder
	for _, n := range l {
		tag := tagOf[n.Kind]
		if strings.Contains(fieldsOf[n.Kind], "T") {
			tag += " " + n.Text
		}
		if strings.Contains(fieldsOf[n.Kind], "N") {
			tag += fmt.Sprintf(" %d", n.Number)
		}
		switch {
		case n.Kind == 1:
			s.WriteString(n.Text)
		case strings.Contains(fieldsOf[n.Kind], "P"):
			fmt.Fprintf(&s, "<%s>%s</%s>", tag, marked(n.Parts), tagOf[n.Kind])
		default:
			fmt.Fprintf(&s, "<%s/>", tag)
		}
	}
	return s.String()
}

func wantedCheck(l []api.Node) api.Errno {
	all := places(l)
	for _, p := range all {
		// A node with Parts is in as many further ones as its path has indices before its own.
		if len(p.node().Parts) > 0 && len(p.path) > maxDepth || len(all) > maxNode {
			return api.ErrLimit
		}
	}
	for _, p := range all {
		if e := wantedError(p); e != api.OK {
			return e
		}
	}
	if len(marked(l)) > maxText {
		return api.ErrLimit
	}
	return api.OK
}

func wantedPrint(l []api.Node) (string, api.Errno) {
	if wantedCheck(l) != api.OK {
		return "", api.ErrArgument
	}
	return marked(l), api.OK
}

// elements returns the nodes up to the next end of an element.
func elements(d *xml.Decoder) []api.Node {
	var l []api.Node
	for {
		token, err := d.Token()
		if err != nil {
			panic(err)
		}
		switch x := token.(type) {
		case xml.CharData:
			l = append(l, text(string(x)))
		case xml.StartElement:
			n := api.Node{Kind: slices.Index(tagOf, x.Name.Local)}
			if strings.Contains(fieldsOf[n.Kind], "T") {
				n.Text = x.Attr[0].Value
			}
			if strings.Contains(fieldsOf[n.Kind], "N") {
				fmt.Sscan(x.Attr[0].Value, &n.Number)
			}
			n.Parts = elements(d)
			l = append(l, n)
		case xml.EndElement:
			return l
		}
	}
}

func wantedParse(s string) ([]api.Node, api.Errno) {
	lexemes, e := markup.Scan(s)
	if e != api.OK {
		return nil, e
	}
	if e := markup.Nested(lexemes); e != api.OK {
		return nil, e
	}
	d := xml.NewDecoder(strings.NewReader("<pb>" + valueForm.ReplaceAllString(s, `<$1 value="$2"$3>`) + "</pb>"))
	if _, err := d.Token(); err != nil {
		panic(err)
	}
	l := elements(d)
	if e := wantedCheck(l); e != api.OK {
		return nil, e
	}
	return l, api.OK
}

// isAt returns a function that reports whether at an index there is a node of characters that satisfies a condition.
func isAt(l []api.Node, is func(i int) bool) func(i int) bool {
	return func(i int) bool { return l[i].Kind == 1 && is(i) }
}

// firstOf returns the first index below n that satisfies a condition, or -1.
func firstOf(n int, is func(i int) bool) int {
	for i := range n {
		if is(i) {
			return i
		}
	}
	return -1
}

func wantedMerge(l []api.Node) []api.Node {
	l = slices.Clone(l)
	for {
		i := firstOf(len(l), isAt(l, func(i int) bool { return l[i].Text == "" }))
		if i < 0 {
			break
		}
		l = slices.Delete(l, i, i+1)
	}
	for {
		i := firstOf(len(l)-1, isAt(l, func(i int) bool { return l[i+1].Kind == 1 }))
		if i < 0 {
			break
		}
		l[i].Text += l[i+1].Text
		l = slices.Delete(l, i+1, i+2)
	}
	for i := range l {
		l[i].Parts = wantedMerge(l[i].Parts)
	}
	return l
}

func wantedCharacters(l []api.Node) (string, api.Errno) {
	if wantedCheck(l) != api.OK {
		return "", api.ErrArgument
	}
	return anyTag.ReplaceAllString(marked(l), ""), api.OK
}

// wantedCount returns what Count returns for each kind.
func wantedCount(l []api.Node) func(kind int) (int, api.Errno) {
	isValid := wantedCheck(l) == api.OK
	counts := map[int]int{}
	for _, p := range places(l) {
		counts[p.node().Kind]++
	}
	return func(kind int) (int, api.Errno) {
		switch {
		case !isValid:
			return 0, api.ErrArgument
		case kind < 1 || kind > 11:
			return 0, api.ErrKind
		}
		return counts[kind], api.OK
	}
}

func wantedDepth(l []api.Node) (int, api.Errno) {
	if wantedCheck(l) != api.OK {
		return 0, api.ErrArgument
	}
	depth, most := 0, 0
	for _, tag := range anyTag.FindAllString(marked(l), -1) {
		switch {
		case strings.HasPrefix(tag, "</"):
			depth--
		case !strings.HasSuffix(tag, "/>"):
			depth++
		}
		most = max(most, depth)
	}
	return most, api.OK
}

func wantedSame(a, b []api.Node) bool { return samples.Fields(a) == samples.Fields(b) }

// The functions down to name return nodes of all kinds, valid or not.

func text(s string) api.Node    { return api.Node{Kind: 1, Text: s} }
func line() api.Node            { return api.Node{Kind: 2} }
func page(s string) api.Node    { return api.Node{Kind: 3, Text: s} }
func section(s string) api.Node { return api.Node{Kind: 4, Text: s} }
func verse() api.Node           { return api.Node{Kind: 5} }
func gap(n int) api.Node        { return api.Node{Kind: 6, Number: n} }
func unclear(l ...api.Node) api.Node {
	return api.Node{Kind: 7, Parts: l}
}
func add(n int, l ...api.Node) api.Node {
	return api.Node{Kind: 8, Number: n, Parts: l}
}
func del(n int, l ...api.Node) api.Node {
	return api.Node{Kind: 9, Number: n, Parts: l}
}
func abbr(s string, l ...api.Node) api.Node {
	return api.Node{Kind: 10, Text: s, Parts: l}
}
func name(s string, l ...api.Node) api.Node {
	return api.Node{Kind: 11, Text: s, Parts: l}
}

func list(l ...api.Node) []api.Node { return l }

// times returns a string n times.
func times(n int, s string) string { return strings.Repeat(s, n) }

// lines returns n nodes.
func lines(n int) []api.Node { return slices.Repeat(list(line()), n) }

// within returns a list within n nodes.
func within(n int, l ...api.Node) []api.Node {
	for range n {
		l = list(unclear(l...))
	}
	return l
}

// brief returns a beginning of a text of all fields, for messages.
func brief(l []api.Node) string {
	return fmt.Sprintf("%.300v", l)
}

// checkString checks what Parse returns for s, and that s is printed from it. P10.1, P10.2 and P10.5.
func checkString(t *testing.T, s string) api.Errno {
	t.Helper()
	l, e := transcript.Parse(s)
	if want, f := wantedParse(s); !wantedSame(l, want) || e != f {
		t.Fatalf("P10.1: Parse(%.200q): %s, %d, not %s, %d", s, brief(l), e, brief(want), f)
	}
	if e != api.OK {
		return e
	}
	if f := transcript.Check(l); f != api.OK {
		t.Fatalf("P10.2: Check(Parse(%.200q)): %d", s, f)
	}
	if p, f := transcript.Print(l); p != s || f != api.OK {
		t.Fatalf("P10.2: Print(Parse(%.200q)): %.200q, %d", s, p, f)
	}
	lexemes, _ := markup.Scan(s)
	count := 0
	for _, x := range lexemes {
		if x.Kind != api.CloseLexeme {
			count++
		}
	}
	if n := len(places(l)); n != count {
		t.Fatalf("P10.5: %.200q: %d nodes, but %d lexemes", s, n, count)
	}
	characters, f := transcript.Characters(l)
	if stripped, g := markup.Strip(s); characters != stripped || f != api.OK || g != api.OK {
		t.Fatalf("P10.5: Characters(Parse(%.200q)): %.200q, not %.200q; %d, %d", s, characters, stripped, f, g)
	}
	return e
}

// checkList checks what all functions of lists return for l. P10.1, P10.2 and P10.3.
func checkList(t *testing.T, l []api.Node) api.Errno {
	t.Helper()
	before := samples.Copied(l)
	e := transcript.Check(l)
	if want := wantedCheck(l); e != want {
		t.Fatalf("P10.1: Check(%s): %d, not %d", brief(l), e, want)
	}
	s, f := transcript.Print(l)
	if want, g := wantedPrint(l); s != want || f != g {
		t.Fatalf("P10.1: Print(%s): %.200q, %d, not %.200q, %d", brief(l), s, f, want, g)
	}
	characters, f := transcript.Characters(l)
	if want, g := wantedCharacters(l); characters != want || f != g {
		t.Fatalf("P10.1: Characters(%s): %.200q, %d, not %.200q, %d", brief(l), characters, f, want, g)
	}
	depth, f := transcript.Depth(l)
	if want, g := wantedDepth(l); depth != want || f != g {
		t.Fatalf("P10.1: Depth(%s): %d, %d, not %d, %d", brief(l), depth, f, want, g)
	}
	sum := 0
	count := wantedCount(l)
	for _, kind := range []int{1, 2, 3, 4, 5, 6, 7, 8, 9, 10, 11, 0, 12, -1, math.MinInt, math.MaxInt} {
		n, f := transcript.Count(l, kind)
		if want, g := count(kind); n != want || f != g {
			t.Fatalf("P10.1: Count(%s, %d): %d, %d, not %d, %d", brief(l), kind, n, f, want, g)
		}
		sum += n
	}
	checkMerge(t, l, e == api.OK)
	if !transcript.Same(l, before) {
		t.Fatalf("P10.1: %s is not the same as its copy, or was changed to %s", brief(before), brief(l))
	}
	if !reflect.DeepEqual(l, before) {
		t.Fatalf("%s was changed to %s", brief(before), brief(l))
	}
	if e != api.OK {
		return e
	}
	if sum != len(places(l)) {
		t.Fatalf("P10.1: %s: %d nodes of all kinds", brief(l), sum)
	}
	if back, f := transcript.Parse(s); !wantedSame(back, l) || !transcript.Same(back, l) || f != api.OK {
		t.Fatalf("P10.2: Parse(Print(%s)): %s, %d", brief(l), brief(back), f)
	}
	return e
}

// checkMerge checks what Merge returns for l. P10.1 and P10.3.
func checkMerge(t *testing.T, l []api.Node, isValid bool) {
	t.Helper()
	merged := transcript.Merge(l)
	if want := wantedMerge(l); !wantedSame(merged, want) {
		t.Fatalf("P10.1: Merge(%s): %s, not %s", brief(l), brief(merged), brief(want))
	}
	if isValid && !transcript.Same(merged, l) {
		t.Fatalf("P10.3: Merge(%s): %s", brief(l), brief(merged))
	}
	if again := transcript.Merge(merged); !wantedSame(again, merged) {
		t.Fatalf("P10.3: Merge(Merge(%s)): %s, not %s", brief(l), brief(again), brief(merged))
	}
	// Nodes of characters that have Parts are no transcript, and can be left out with them.
	if a, ok := ofCharacters(l); ok {
		if b, _ := ofCharacters(merged); a != b {
			t.Fatalf("P10.3: the characters of Merge(%s): %.200q, not %.200q", brief(l), b, a)
		}
	}
}

// ofCharacters returns the Texts of all nodes of characters, and whether none of these has Parts.
func ofCharacters(l []api.Node) (string, bool) {
	var s strings.Builder
	ok := true
	for _, p := range places(l) {
		if n := p.node(); n.Kind == 1 {
			s.WriteString(n.Text)
			ok = ok && len(n.Parts) == 0
		}
	}
	return s.String(), ok
}

// parse returns the nodes of a marked-up string.
func parse(t *testing.T, s string) []api.Node {
	t.Helper()
	l, e := transcript.Parse(s)
	if e != api.OK {
		t.Fatalf("Parse(%.200q): %d", s, e)
	}
	return l
}

// The example of the chapter.
func TestExample(t *testing.T) {
	l := parse(t, "de<add 1>us</add><lb/>")
	if want := list(text("de"), add(1, text("us")), line()); !reflect.DeepEqual(l, want) {
		t.Error(l)
	}
	if s, e := transcript.Characters(l); s != "deus" || e != api.OK {
		t.Errorf("%q, %d", s, e)
	}
	if n, e := transcript.Depth(l); n != 1 || e != api.OK {
		t.Errorf("%d, %d", n, e)
	}
}

// byHand are strings with their nodes, characters and depths.
type byHand struct {
	s          string
	l          []api.Node
	characters string
	depth      int
}

// markedByHand has each kind, marked up as the chapter says, with the least and the greatest Texts and Numbers.
func markedByHand() []byHand {
	word, wordy := times(64, "x"), "a"+times(63, "^")
	sixteen := "0123456789abcdef"
	cases := []byHand{
		{"", nil, "", 0}, {"a", list(text("a")), "a", 0}, {" ", list(text(" ")), " ", 0}, {"deus est.", list(text("deus est.")), "deus est.", 0}, {"e^~'1.,;:!?()-", list(text("e^~'1.,;:!?()-")), "e^~'1.,;:!?()-", 0}, {"lb", list(text("lb")), "lb", 0},
		{"<lb/>", list(line()), "", 0}, {"<v/>", list(verse()), "", 0}, {"<pb 12v/>", list(page("12v")), "", 0}, {"<pb a/>", list(page("a")), "", 0}, {"<pb " + sixteen + "/>", list(page(sixteen)), "", 0}, {"<sec I/>", list(section("I")), "", 0}, {"<sec sec/>", list(section("sec")), "", 0}, {"<sec " + sixteen + "/>", list(section(sixteen)), "", 0},
		{"<unclear>a</unclear>", list(unclear(text("a"))), "a", 1}, {"<unclear><lb/></unclear>", list(unclear(line())), "", 1},
		{"<ab dns>dominus</ab>", list(abbr("dns", text("dominus"))), "dominus", 1}, {"<ab 1>a</ab>", list(abbr("1", text("a"))), "a", 1}, {"<ab qu'e^~%'>a</ab>", list(abbr("qu'e^~%'", text("a"))), "a", 1}, {"<ab " + word + ">a</ab>", list(abbr(word, text("a"))), "a", 1}, {"<ab " + wordy + ">a</ab>", list(abbr(wordy, text("a"))), "a", 1},
		{"<name Roma>Romam</name>", list(name("Roma", text("Romam"))), "Romam", 1}, {"<name 0>a</name>", list(name("0", text("a"))), "a", 1}, {"<name " + sixteen + ">a</name>", list(name(sixteen, text("a"))), "a", 1},
		{"a<lb/>b", list(text("a"), line(), text("b")), "ab", 0}, {"<lb/><lb/><v/>", list(line(), line(), verse()), "", 0}, {"a<unclear>b</unclear>c", list(text("a"), unclear(text("b")), text("c")), "abc", 1}, {"<unclear>a</unclear><unclear>b</unclear>", list(unclear(text("a")), unclear(text("b"))), "ab", 1},
		{"<unclear><unclear>a</unclear>b</unclear>", list(unclear(unclear(text("a")), text("b"))), "ab", 2}, {"<unclear>a<unclear>b</unclear></unclear>", list(unclear(text("a"), unclear(text("b")))), "ab", 2}, {"<unclear><unclear><unclear>a</unclear></unclear></unclear><del 1>b</del>", list(unclear(unclear(unclear(text("a")))), del(1, text("b"))), "ab", 3},
		{"<add 1><del 2><ab q^>q</ab>ue</del><gap 3/></add><name R>r<pb 2/></name>", list(add(1, del(2, abbr("q^", text("q")), text("ue")), gap(3)), name("R", text("r"), page("2"))), "quer", 3},
		{"e^<add 1>e^</add>", list(text("e^"), add(1, text("e^"))), "e^e^", 1},
		{times(maxDepth, "<unclear>") + "a" + times(maxDepth, "</unclear>"), within(16, text("a")), "a", 16},
	}
	for n := 1; n <= 64; n++ {
		cases = append(cases, byHand{fmt.Sprintf("<gap %d/>", n), list(gap(n)), "", 0})
	}
	for n := 1; n <= 8; n++ {
		cases = append(cases, byHand{fmt.Sprintf("<add %d>a</add>", n), list(add(n, text("a"))), "a", 1}, byHand{fmt.Sprintf("<del %d>a</del>", n), list(del(n, text("a"))), "a", 1})
	}
	return cases
}

// P10.1 and P10.2 for strings that are marked up.
func TestMarked(t *testing.T) {
	for _, c := range markedByHand() {
		l, e := transcript.Parse(c.s)
		if !wantedSame(l, c.l) || e != api.OK {
			t.Errorf("Parse(%q): %v, %d", c.s, l, e)
		}
		if s, e := transcript.Print(c.l); s != c.s || e != api.OK {
			t.Errorf("Print(%v): %q, %d", c.l, s, e)
		}
		if e := transcript.Check(c.l); e != api.OK {
			t.Errorf("Check(%v): %d", c.l, e)
		}
		if s, e := transcript.Characters(c.l); s != c.characters || e != api.OK {
			t.Errorf("Characters(%v): %q, %d", c.l, s, e)
		}
		if n, e := transcript.Depth(c.l); n != c.depth || e != api.OK {
			t.Errorf("Depth(%v): %d, %d", c.l, n, e)
		}
		checkString(t, c.s)
		checkList(t, c.l)
	}
}

// P10.1 for Parse: strings with each error of Scan, of Nested and of Check, and with several ones.
func TestParseErrors(t *testing.T) {
	deep := times(17, "<unclear>") + "a" + times(17, "</unclear>")
	for e, cases := range map[api.Errno][]string{
		api.ErrLimit: {
			// Of Scan, ahead of all other errors.
			times(maxText+1, "a"), times(maxText+1, "_"), times(maxText+1, "<"), times(maxText/4, "<v/>") + "^",
			// Of Nested.
			deep, times(17, "<unclear>"), times(17, "<add 1>") + "</del>", times(17, "<unclear>") + times(17, "</unclear>"), "<unclear></unclear>" + deep, "<unclear><sec a/></unclear>" + deep, deep + "</unclear>", deep + times(4096, "<v/>"),
			// Of Check, ahead of all its other errors.
			times(4097, "<v/>"), times(4097, "<lb/>"), "<add 1></add>" + times(4096, "<v/>"), "<unclear><sec a/></unclear>" + times(4096, "<v/>"), times(4097, "<add 1></add>"), "<add 1>" + times(4096, "<v/>") + "</add>",
		},
		api.ErrChar: {
			"_", "^", "a[", "a<lb/>^b", "<add 1>^</add>", "a^<add 1>1^</add>", ">", "é", "\xff", "\n",
			// Ahead of what stands behind it, and of what Nested and Check find.
			"_<", "_<foo/>", "_<lb/", "^</add>", "</add>^", "<add 1></add>_", "<unclear>_", "<unclear><sec a/></unclear>^", times(17, "<unclear>") + "_", times(4097, "<v/>") + "_",
		},
		api.ErrSyntax: {
			"<", "a<", "<lb", "<foo", "</add", "<lb />", "<pb/>", "<gap 0/>", "<gap 65/>", "<gap 064/>", "<add 0>a</add>", "<add 9>a</add>", "<add>a</add>", "<del 10>a</del>", "<unclear 1>a</unclear>", "<unclear/>", "<add 1/>", "<ab>a</ab>", "<ab 'a>a</ab>", "<ab a b>c</ab>", "<name a'b>c</name>", "<name>a</name>", "<pb e^/>", "<sec a-b/>", "<lb>", "<pb 1r></pb>", "</lb>", "<ab " + times(65, "x") + ">a</ab>", "<name " + times(17, "x") + ">a</name>", "<sec " + times(17, "x") + "/>", "<pb " + times(17, "x") + "/>",
			"</add><", "<gap 0/>_", "<gap 0/><foo/>", "<unclear></unclear><gap 0/>", "<unclear><sec a b/></unclear>", times(17, "<unclear>") + "<add 9>", times(4097, "<v/>") + "<",
		},
		api.ErrTag: {
			// Of Scan.
			"<foo/>", "<>", "</>", "<LB/>", "<text>a</text>", "< lb/>", "<foo/>_", "<foo/><", "<foo><add 1></add>", times(17, "<unclear>") + "<foo>",
			// Of Nested.
			"<add 1>", "</add>", "a</unclear>", "<unclear>a", "<unclear><add 1>a</unclear></add>", "<add 1>a</del>", "</add><add 1>", "<add 1>a</add></add>", times(16, "<unclear>"), "</add>" + times(17, "<unclear>"), "<add 1></add><unclear>", "</del>" + times(4097, "<v/>"), "<unclear></unclear></unclear>",
			// Of Check.
			"<unclear><sec a/></unclear>", "<add 1>a<sec a/>b</add>", "<unclear><sec a/></unclear><add 1></add>", "<unclear><sec a/><add 1></add></unclear>",
		},
		api.ErrEmpty: {
			"<unclear></unclear>", "<add 1></add>", "<del 8></del>", "<ab a></ab>", "<name a></name>", "a<add 1></add>b", "<unclear><unclear></unclear></unclear>", "<unclear>a</unclear><add 1></add>", "<unclear></unclear><unclear><sec a/></unclear>", "<unclear><add 1></add><sec a/></unclear>", times(16, "<unclear>") + times(16, "</unclear>"), times(4096, "<add 1></add>"), "<add 1></add>" + times(4095, "<v/>"),
		},
	} {
		for _, s := range cases {
			if l, f := transcript.Parse(s); len(l) != 0 || f != e {
				t.Errorf("Parse(%.100q): %s, %d, not %d", s, brief(l), f, e)
			}
			checkString(t, s)
		}
	}
	// A list for which Check returns ErrOrder is not marked up as a string: the characters are one node.
	if l := parse(t, times(maxText, "a")); !wantedSame(l, list(text(times(maxText, "a")))) {
		t.Error(brief(l))
	}
}

// wrong returns lists that are not valid, by their errors.
func wrong() map[api.Errno][][]api.Node {
	a := text("a")
	parts := list(a)
	return map[api.Errno][][]api.Node{
		api.ErrKind: {
			// No kinds.
			list(api.Node{}), list(api.Node{Kind: -1}), list(api.Node{Kind: 12}), list(api.Node{Kind: 13, Text: "a"}), list(api.Node{Kind: math.MinInt}), list(api.Node{Kind: math.MaxInt}), list(api.Node{Kind: 1<<32 + 2}), list(api.Node{Kind: -5}), list(api.Node{Text: "a"}), list(api.Node{Parts: parts}), list(api.Node{Kind: 12, Parts: parts}), list(api.Node{Kind: 12, Number: 1}), list(a, api.Node{}), list(api.Node{}, a),
			// Each field that a kind does not have.
			list(api.Node{Kind: 1, Text: "a", Number: 1}), list(api.Node{Kind: 1, Text: "a", Number: -1}), list(api.Node{Kind: 1, Text: "a", Parts: parts}), list(api.Node{Kind: 1, Number: 1}), list(api.Node{Kind: 1, Parts: parts}), list(api.Node{Kind: 1, Text: "^", Parts: parts}), list(api.Node{Kind: 1, Text: "a", Parts: list(api.Node{})}),
			list(api.Node{Kind: 2, Text: "a"}), list(api.Node{Kind: 2, Number: 1}), list(api.Node{Kind: 2, Number: math.MinInt}), list(api.Node{Kind: 2, Parts: parts}),
			list(api.Node{Kind: 3, Text: "a", Number: 1}), list(api.Node{Kind: 3, Text: "a", Parts: parts}), list(api.Node{Kind: 3, Number: 1}), list(api.Node{Kind: 3, Parts: parts}),
			list(api.Node{Kind: 4, Text: "a", Number: -1}), list(api.Node{Kind: 4, Text: "a", Parts: parts}), list(api.Node{Kind: 4, Number: 1}), list(api.Node{Kind: 4, Text: "", Parts: parts}),
			list(api.Node{Kind: 5, Text: "a"}), list(api.Node{Kind: 5, Number: 1}), list(api.Node{Kind: 5, Parts: parts}),
			list(api.Node{Kind: 6, Number: 1, Text: "a"}), list(api.Node{Kind: 6, Number: 1, Parts: parts}), list(api.Node{Kind: 6, Text: "1"}), list(api.Node{Kind: 6, Parts: parts}), list(api.Node{Kind: 6, Number: 65, Text: "a"}),
			list(api.Node{Kind: 7, Text: "a", Parts: parts}), list(api.Node{Kind: 7, Number: 1, Parts: parts}), list(api.Node{Kind: 7, Text: "a"}), list(api.Node{Kind: 7, Number: -1}),
			list(api.Node{Kind: 8, Number: 1, Text: "a", Parts: parts}), list(api.Node{Kind: 8, Text: "a", Parts: parts}), list(api.Node{Kind: 8, Number: 1, Text: "1"}),
			list(api.Node{Kind: 9, Number: 1, Text: "a", Parts: parts}), list(api.Node{Kind: 9, Number: 9, Text: "a", Parts: parts}), list(api.Node{Kind: 9, Text: "a"}),
			list(api.Node{Kind: 10, Text: "a", Number: 1, Parts: parts}), list(api.Node{Kind: 10, Number: 1, Parts: parts}), list(api.Node{Kind: 10, Text: "a", Number: 1}),
			list(api.Node{Kind: 11, Text: "a", Number: 1, Parts: parts}), list(api.Node{Kind: 11, Text: "a^", Number: -1, Parts: parts}), list(api.Node{Kind: 11, Text: "a", Number: 1}),
			// Ahead of all other errors of the node, and of those of later ones.
			list(a, api.Node{Kind: 1, Number: 1}), list(a, api.Node{Kind: 1, Text: "b", Number: 1}), list(unclear(api.Node{Kind: 4, Number: 1})), list(unclear(api.Node{}), gap(0)), list(api.Node{Kind: 2, Text: "a"}, unclear()), list(api.Node{Kind: 1, Parts: list(unclear())}, text("")), within(16, api.Node{Kind: 12}), list(unclear(a, line(), api.Node{Kind: 2, Number: 2}), a, a),
		},
		api.ErrEmpty: {
			list(text("")), list(line(), text("")), list(a, text("")), list(text(""), a), list(text(""), text("")), list(unclear(text(""))), list(unclear(a), text("")),
			list(unclear()), list(add(1)), list(del(1)), list(abbr("a")), list(name("a")), list(unclear(list()...)), list(api.Node{Kind: 7, Parts: []api.Node{}}), list(a, add(1), a), list(unclear(unclear())), within(16, unclear()), within(16, text("")),
			// Ahead of errors of Text, Number and place, and of those of later nodes.
			list(add(0)), list(add(9)), list(del(-1)), list(abbr("")), list(abbr("a b")), list(name("")), list(name("a^")), list(text(""), api.Node{}), list(add(9), api.Node{}), list(unclear(unclear(), api.Node{}), text("_")), list(unclear(a, text("")), api.Node{}),
		},
		api.ErrChar: {
			list(text("_")), list(text("^")), list(text("^a")), list(text("~a")), list(text("%")), list(text("a\x00")), list(text("\xff")), list(text("é")), list(text("a<lb/>")), list(text("<")), list(text(">")), list(text("a b_")), list(text("1^")), list(text("a ^")), list(text("[]")), list(text("\n")), list(text("a/b")), list(text(times(maxText+1, "a"))), list(text(times(maxText+1, "_"))),
			list(text("a^"), line(), text("^")), list(unclear(text("_"))), within(16, text("^")), list(a, text("_")), list(a, text(times(maxText+1, "a"))), list(a, unclear(text("^"))), list(text("a^"), unclear(text("^"))), list(text("^"), api.Node{}), list(text("_"), text("")), list(unclear(text("_"), unclear()), unclear()),
		},
		api.ErrName: {
			list(page("")), list(page("a b")), list(page("a^")), list(page("a'b")), list(page("_")), list(page(".")), list(page(times(17, "a"))), list(page("a\x00")), list(page("é")), list(page("1r ")), list(page("-")), list(page("a/")),
			list(section("")), list(section("a^")), list(section("I.1")), list(section(times(17, "a"))), list(section(" ")), list(section("\xff")), list(section("'a")),
			list(abbr("", a)), list(abbr("a b", a)), list(abbr("^", a)), list(abbr("^a", a)), list(abbr("'a", a)), list(abbr("a.", a)), list(abbr("1^", a)), list(abbr("a'^", a)), list(abbr(times(65, "a"), a)), list(abbr("a_", a)), list(abbr(" ", a)), list(abbr("\xff", a)), list(abbr("a>", a)),
			list(name("", a)), list(name("a^", a)), list(name("a'b", a)), list(name("Roma urbs", a)), list(name(times(17, "a"), a)), list(name("a~", a)), list(name("^", a)),
			// Ahead of errors of place, and of those of later nodes and of the Parts.
			list(unclear(section(""))), list(unclear(section("a b"))), list(abbr("", api.Node{})), list(name("", unclear())), list(abbr("a b", a, a)), list(page(""), api.Node{}), list(a, page(""), a, a), within(16, page("")), list(name("a", name("", unclear()), unclear())),
		},
		api.ErrRange: {
			list(gap(0)), list(gap(65)), list(gap(-1)), list(gap(-64)), list(gap(66)), list(gap(math.MinInt)), list(gap(math.MaxInt)), list(gap(1<<32 + 1)), list(gap(257)), list(a, gap(0)), list(unclear(gap(65))),
			list(add(0, a)), list(add(9, a)), list(add(-1, a)), list(add(math.MinInt, a)), list(add(math.MaxInt, a)), list(add(1<<32+1, a)), list(add(64, a)), list(add(10, a)), list(del(0, a)), list(del(9, a)), list(del(-1, a)), list(del(-8, a)), list(del(math.MinInt, a)), list(del(1<<32+8, a)),
			list(add(0, unclear())), list(add(9, api.Node{})), list(del(9, section("a"))), list(gap(0), a, a), list(add(1, del(9, text(""))), api.Node{}), within(16, gap(0)), list(gap(65), unclear(section("a"))),
		},
		api.ErrOrder: {
			list(a, a), list(a, text("b")), list(text(" "), text(" ")), list(line(), a, a), list(a, line(), a, a), list(a, a, a), list(unclear(a, a)), list(unclear(line(), a, a)), list(a, unclear(a, a)), list(unclear(a), a, a), within(16, a, a), list(unclear(a, unclear(a), a, a)), list(a, unclear(a, text("b"))),
			list(a, a, unclear()), list(a, a, api.Node{}), list(a, text("b"), unclear(section("a"))), list(unclear(a, a, section("a"))), list(unclear(a, a), gap(0)),
		},
		api.ErrTag: {
			list(unclear(section("a"))), list(add(1, section("a"))), list(del(1, section("a"))), list(abbr("a", section("a"))), list(name("a", section("a"))), list(unclear(a, section("a"))), list(unclear(section("a"), a)), list(section("a"), unclear(section("b"))), list(unclear(unclear(a), section("a"))), list(unclear(line(), section("a"))),
			list(unclear(section("a"), api.Node{})), list(unclear(section("a")), api.Node{}), list(unclear(section("a"), a, a)), list(unclear(section("a"), unclear())), list(unclear(section("a")), gap(0)),
		},
		api.ErrLimit: {
			// Too many nodes, also in Parts, or too deep, ahead of all other errors.
			lines(4097), lines(5000), list(unclear(lines(4096)...)), append(lines(4095), unclear(line())), list(unclear(lines(2048)...), unclear(lines(2047)...)), slices.Repeat(list(api.Node{}), 4097), slices.Repeat(list(a), 4097), append(list(text("")), lines(4096)...), append(list(api.Node{Kind: 1, Parts: lines(4096)}), lines(1)...), list(api.Node{Kind: 2, Parts: lines(4096)}), list(api.Node{Parts: lines(4096)}), append(list(unclear()), lines(4096)...), list(within(16, lines(4081)...)...), append(lines(4096), api.Node{}),
			within(17, a), within(18, a), within(100, a), within(17, line()), within(17, text("")), within(17, unclear()), within(16, unclear(a)), append(list(api.Node{}), within(17, a)...), append(within(17, a), api.Node{}), append(list(a, a), within(17, a)...), within(16, api.Node{Kind: 1, Parts: list(a)}), within(16, api.Node{Parts: list(a)}), within(16, api.Node{Kind: 12, Parts: list(api.Node{})}), list(unclear(), unclear(append(lines(3), within(16, a)...)...)), within(9, append(list(text(""), section("")), within(8, a)...)...),
			// What is marked up is too long, behind all other errors.
			list(line(), text(times(maxText, "a"))), list(text(times(maxText, "a")), verse()), list(text(times(maxText-3, "a")), verse()), list(text(times(maxText/2, "a")), line(), text(times(maxText/2-4, "a"))), list(unclear(text(times(maxText-18, "a")))), list(add(1, text(times(maxText-12, "a")))),
		},
	}
}

// P10.1 for Check, and for the functions that return ErrArgument for lists that are not valid.
func TestCheckErrors(t *testing.T) {
	for e, lists := range wrong() {
		for _, l := range lists {
			if f := transcript.Check(l); f != e {
				t.Errorf("Check(%s): %d, not %d", brief(l), f, e)
			}
			checkList(t, l)
			if s, f := transcript.Print(l); s != "" || f != api.ErrArgument {
				t.Errorf("Print(%s): %.100q, %d", brief(l), s, f)
			}
			if s, f := transcript.Characters(l); s != "" || f != api.ErrArgument {
				t.Errorf("Characters(%s): %.100q, %d", brief(l), s, f)
			}
			if n, f := transcript.Depth(l); n != 0 || f != api.ErrArgument {
				t.Errorf("Depth(%s): %d, %d", brief(l), n, f)
			}
			for _, kind := range []int{-1, 0, 1, 2, 7, 11, 12} {
				if n, f := transcript.Count(l, kind); n != 0 || f != api.ErrArgument {
					t.Errorf("Count(%s, %d): %d, %d", brief(l), kind, n, f)
				}
			}
		}
	}
}

// P10.1 for lists that just are valid.
func TestCheckValid(t *testing.T) {
	a := text("a")
	for _, l := range [][]api.Node{
		nil, {}, list(unclear(a), a), list(a, unclear(a)), list(a, unclear(a), a), list(unclear(unclear(a), a), a), list(unclear(line(), a), a), list(unclear(a, line(), a)), list(unclear(a), unclear(a)), list(a, line(), a), list(unclear(a, unclear(a)), a), list(text("a^"), add(1, text("b"))),
		list(section("a"), unclear(a), section("a")), list(section("a"), section("a")), list(unclear(a), section("a")), list(a, section("b"), a),
		// Empty lists that are not nil.
		list(api.Node{Kind: 1, Text: "a", Parts: []api.Node{}}), list(api.Node{Kind: 2, Parts: []api.Node{}}), list(unclear(api.Node{Kind: 6, Number: 1, Parts: []api.Node{}})),
		// The greatest numbers of nodes, and depths.
		lines(4096), list(unclear(lines(4095)...)), append(lines(4094), unclear(line())), list(unclear(lines(2047)...), unclear(lines(2047)...)), append(lines(4095), unclear(line()))[1:], within(16, lines(4080)...), slices.Repeat(list(a, line()), 2048),
		within(16, a), within(16, line()), within(15, unclear(a), line(), unclear(a)), within(16, a, gap(1), a), slices.Repeat(within(16, a), 200), list(unclear(within(15, a)...), unclear(append(within(15, a), a)...)), within(8, append(within(8, a), a)...),
		// The longest strings.
		list(text(times(maxText, "a"))), list(line(), text(times(maxText-5, "a"))), list(text(times(maxText-4, "a")), verse()), list(text(times(maxText/2, "a")), line(), text(times(maxText/2-5, "a"))), list(unclear(text(times(maxText-19, "a")))), list(add(1, text(times(maxText-13, "a")))), list(gap(1), text(times(maxText-8, "a"))), list(gap(10), text(times(maxText-9, "a"))), list(page("1r"), text(times(maxText-8, "a"))), list(abbr("dns", text(times(maxText-13, "a")))), list(name("R", text(times(maxText-15, "a")))),
	} {
		if e := transcript.Check(l); e != api.OK {
			t.Errorf("Check(%s): %d", brief(l), e)
		}
		checkList(t, l)
	}
	// A section at each depth.
	for depth := range 17 {
		want := api.ErrTag
		if depth == 0 {
			want = api.OK
		}
		for _, l := range [][]api.Node{within(depth, section("a")), within(depth, a, section("a"), a)} {
			if e := transcript.Check(l); e != want {
				t.Errorf("a section at the depth %d: %d", depth, e)
			}
			checkList(t, l)
		}
	}
}

// P10.1 for each node of few values in each field, alone and in several places.
func TestCheckEachField(t *testing.T) {
	counts := map[api.Errno]int{}
	texts := []string{"", "a", "a^", "^a", "a b", "a'b", "'", "_", ".", "1", times(16, "a"), times(17, "a"), times(64, "a"), times(65, "a")}
	partLists := [][]api.Node{nil, {}, list(text("b")), list(line()), list(text("b"), text("c")), list(section("b")), list(text("")), list(api.Node{}), list(unclear(line()))}
	for kind := -1; kind <= 13; kind++ {
		for _, s := range texts {
			for _, number := range []int{0, 1, -1, 8, 9, 64, 65} {
				for _, parts := range partLists {
					n := api.Node{Kind: kind, Text: s, Number: number, Parts: parts}
					for _, l := range [][]api.Node{list(n), list(text("x"), n), list(unclear(n)), list(unclear(text("x"), n)), list(unclear(text("x")), n), list(n, n)} {
						e := transcript.Check(l)
						if want := wantedCheck(l); e != want {
							t.Fatalf("Check(%v): %d, not %d", l, e, want)
						}
						counts[e]++
					}
				}
			}
		}
	}
	for _, e := range []api.Errno{api.OK, api.ErrKind, api.ErrEmpty, api.ErrChar, api.ErrName, api.ErrRange, api.ErrOrder, api.ErrTag} {
		if counts[e] < 20 {
			t.Errorf("%d lists with the error %d", counts[e], e)
		}
	}
}

// P10.1 for Count: each kind that there is, and ones that there are not.
func TestCount(t *testing.T) {
	l := list(text("a"), line(), line(), page("1"), section("I"), verse(), gap(1), unclear(text("b"), verse(), verse()), add(1, unclear(gap(2), page("2"))), del(1, del(1, text("c"))), abbr("x", name("y", gap(3)), line()))
	for kind, want := range []int{0, 3, 3, 2, 1, 3, 3, 2, 1, 2, 1, 1} {
		n, e := transcript.Count(l, kind)
		if kind == 0 && (n != 0 || e != api.ErrKind) || kind > 0 && (n != want || e != api.OK) {
			t.Errorf("Count(%d): %d, %d", kind, n, e)
		}
	}
	for _, kind := range []int{0, -1, 12, 13, math.MinInt, math.MaxInt, 1<<32 + 1, -11} {
		for _, l := range [][]api.Node{l, nil} {
			if n, e := transcript.Count(l, kind); n != 0 || e != api.ErrKind {
				t.Errorf("Count(%d): %d, %d", kind, n, e)
			}
		}
		if n, e := transcript.Count(list(unclear()), kind); n != 0 || e != api.ErrArgument {
			t.Errorf("Count(%d) for a list that is not valid: %d, %d", kind, n, e)
		}
	}
	for kind := 1; kind <= 11; kind++ {
		if n, e := transcript.Count(nil, kind); n != 0 || e != api.OK {
			t.Errorf("Count(nil, %d): %d, %d", kind, n, e)
		}
	}
	checkList(t, l)
}

// P10.1 and P10.3 for Merge by hand.
func TestMerge(t *testing.T) {
	a, b, c, none := text("a"), text("b"), text("c"), text("")
	other := func(s string, number int, l ...api.Node) api.Node {
		return api.Node{Kind: 1, Text: s, Number: number, Parts: l}
	}
	for i, c := range []struct{ l, want []api.Node }{
		{nil, nil}, {list(a), list(a)}, {list(none), nil}, {list(none, none), nil},
		{list(a, b), list(text("ab"))}, {list(a, b, c), list(text("abc"))}, {list(a, a, a, a), list(text("aaaa"))}, {list(a, line(), b), list(a, line(), b)}, {list(a, b, line(), b, c), list(text("ab"), line(), text("bc"))}, {list(line(), a, b), list(line(), text("ab"))}, {list(line(), line()), list(line(), line())}, {list(verse(), gap(1), gap(1)), list(verse(), gap(1), gap(1))},
		{list(none, a), list(a)}, {list(a, none), list(a)}, {list(a, none, b), list(text("ab"))}, {list(a, none, none, b), list(text("ab"))}, {list(none, a, none, b, none), list(text("ab"))}, {list(a, none, line()), list(a, line())}, {list(line(), none, line()), list(line(), line())}, {list(a, line(), none, b), list(a, line(), b)},
		// In Parts, and on both sides of their end.
		{list(unclear(a, b)), list(unclear(text("ab")))}, {list(unclear(none)), list(unclear())}, {list(unclear(none, unclear(none, none))), list(unclear(unclear()))}, {list(a, unclear(b), c), list(a, unclear(b), c)}, {list(a, unclear(none), c), list(a, unclear(), c)}, {list(unclear(a), unclear(b)), list(unclear(a), unclear(b))}, {list(a, b, unclear(a, b, unclear(a, none, b), a, b), a, b), list(text("ab"), unclear(text("ab"), unclear(text("ab")), text("ab")), text("ab"))}, {within(20, a, none, b), within(20, text("ab"))},
		// Nodes of characters with other fields: those of the first one that is not left out.
		{list(other("a", 1)), list(other("a", 1))}, {list(other("", 1)), nil}, {list(other("", 1, a)), nil}, {list(other("a", 1), b), list(other("ab", 1))}, {list(a, other("b", 1)), list(text("ab"))}, {list(other("a", 1), other("b", 2)), list(other("ab", 1))}, {list(other("", 1), other("a", 2), other("b", 3)), list(other("ab", 2))}, {list(other("", 1), b), list(b)}, {list(other("a", 0, a, b), other("b", 0, c)), list(other("ab", 0, text("ab")))}, {list(a, other("b", 0, c)), list(text("ab"))}, {list(other("a", -1, none, line())), list(other("a", -1, line()))}, {list(other("", 0, a), b, other("c", 0, line())), list(text("bc"))},
		// Nodes that are not valid otherwise: only those of characters are left out or merged.
		{list(api.Node{}, api.Node{}), list(api.Node{}, api.Node{})}, {list(api.Node{Kind: 12}, api.Node{Text: ""}), list(api.Node{Kind: 12}, api.Node{})}, {list(api.Node{Kind: 2, Text: "a"}, api.Node{Kind: 2, Text: "b"}), list(api.Node{Kind: 2, Text: "a"}, api.Node{Kind: 2, Text: "b"})}, {list(api.Node{Kind: 3}, page("a"), page("b")), list(api.Node{Kind: 3}, page("a"), page("b"))}, {list(api.Node{Kind: -1, Number: 3, Parts: list(a, b)}, a), list(api.Node{Kind: -1, Number: 3, Parts: list(text("ab"))}, a)}, {list(a, api.Node{}, b), list(a, api.Node{}, b)}, {list(abbr("", a, b), abbr("", none)), list(abbr("", text("ab")), abbr(""))}, {list(text("_"), text("^")), list(text("_^"))}, {list(text("\xc3"), text("\xa9")), list(text("é"))}, {list(unclear(), add(0)), list(unclear(), add(0))},
	} {
		if m := transcript.Merge(c.l); !wantedSame(m, c.want) {
			t.Errorf("case %d: %v, not %v", i, m, c.want)
		}
		checkList(t, c.l)
	}
}

// P10.1 and P10.3 for Merge of all short lists of a few nodes.
func TestMergeEach(t *testing.T) {
	nodes := list(text(""), text("a"), api.Node{Kind: 1, Text: "b", Number: 1}, api.Node{Kind: 1, Parts: list(text("c"))}, line(), unclear(text("d"), text(""), text("e")), api.Node{Kind: 12})
	last := [][]api.Node{nil}
	for range 5 {
		var next [][]api.Node
		for _, l := range last {
			for _, n := range nodes {
				next = append(next, append(slices.Clone(l), n))
			}
		}
		for _, l := range next {
			checkMerge(t, l, false)
		}
		last = next
	}
}

// P10.1 for Same: lists that differ in one field.
func TestSame(t *testing.T) {
	a := text("a")
	lists := [][]api.Node{
		nil, list(a), list(text("b")), list(text("A")), list(text("a ")), list(text("")), list(a, a), list(a, text("b")), list(text("b"), a), list(text("aa")), list(a, a, a), list(line()), list(verse()), list(line(), a), list(a, line()),
		list(gap(1)), list(gap(2)), list(gap(-1)), list(gap(math.MinInt)), list(gap(1 << 32)), list(gap(0)), list(page("a")), list(section("a")), list(page("")),
		list(unclear()), list(unclear(a)), list(unclear(text("b"))), list(unclear(a, a)), list(unclear(text("aa"))), list(unclear(a), a), list(a, unclear(a)), list(unclear(), a), list(unclear(unclear())), list(unclear(unclear(a))), list(unclear(unclear(), a)), list(unclear(unclear(a), a)), list(unclear(line())), list(unclear(gap(1))), list(unclear(gap(2))), list(add(1, a)), list(add(2, a)), list(del(1, a)), list(add(1, text("b"))), list(add(0, a)), list(abbr("a", a)), list(abbr("b", a)), list(name("a", a)), list(abbr("a", text("b"))), list(abbr("a")),
		list(api.Node{}), list(api.Node{Kind: 12}), list(api.Node{Kind: -1}), list(api.Node{Kind: 1 << 32}), list(api.Node{Kind: 1, Text: "a", Number: 1}), list(api.Node{Kind: 1, Text: "a", Parts: list(a)}), list(api.Node{Text: "a"}), list(api.Node{Number: 1}), list(api.Node{Parts: list(a)}), list(api.Node{}, api.Node{}),
		within(15, a), within(16, a), within(16, text("b")), within(100, a), within(100, text("b")), within(101, a), lines(100), lines(101), append(lines(100), verse()),
	}
	for i, a := range lists {
		for j, b := range lists {
			if is := transcript.Same(a, samples.Copied(b)); is != (i == j) || is != wantedSame(a, b) {
				t.Errorf("%s and %s: %t", brief(a), brief(b), is)
			}
		}
	}
	empty := []api.Node{}
	if many := lines(5000); !transcript.Same(many, samples.Copied(many)) || transcript.Same(many, lines(5001)) || transcript.Same(many, append(lines(4999), verse())) {
		t.Error("Same of long lists")
	}
	if !transcript.Same(nil, empty) || !transcript.Same(empty, nil) || !transcript.Same(empty, empty) || !transcript.Same(list(unclear()), list(unclear(empty...))) || !transcript.Same(list(api.Node{Kind: 7, Parts: empty}), list(api.Node{Kind: 7})) {
		t.Error("empty lists are not the same")
	}
}

// pieces returns all strings of at most most of the parts.
func pieces(most int, parts ...string) []string {
	all := []string{""}
	last := all
	for range most {
		var next []string
		for _, s := range last {
			for _, p := range parts {
				next = append(next, s+p)
			}
		}
		all = append(all, next...)
		last = next
	}
	return all
}

// P10.1, P10.2 and P10.5 for all short strings of a few parts.
func TestParseEach(t *testing.T) {
	counts := map[api.Errno]int{}
	all := append(pieces(6, "a", "<lb/>", "<add 1>", "</add>", "<unclear>", "</unclear>"), pieces(5, "<sec a/>", "b", "<ab x>", "</ab>", "^", "<gap 3/>", "<")...)
	for _, s := range all {
		counts[checkString(t, s)]++
	}
	for _, e := range []api.Errno{api.OK, api.ErrEmpty, api.ErrTag, api.ErrChar, api.ErrSyntax} {
		if counts[e] < 500 {
			t.Errorf("%d strings with the error %d", counts[e], e)
		}
	}
}

// randomNodes returns a valid list of a few nodes in each of at most most nodes within one another.
func randomNodes(r *rand.Rand, most int, isIn bool) []api.Node {
	texts := []string{"a", "deus", " ", " est", "e^~", "qu'e", ".", "12", "-", "'", "A%b ", "lb"}
	names := []string{"a", "12v", "Roma", "0", times(16, "Z")}
	words := []string{"dns", "qu'e^", "1", "a'", times(64, "x")}
	var l []api.Node
	for len(l) == 0 || r.Intn(7) > 2 {
		kind := max(1, r.Intn(16)-4)
		if kind == 1 && len(l) > 0 && l[len(l)-1].Kind == 1 || kind == 4 && isIn || kind >= 7 && most == 0 {
			continue
		}
		n := api.Node{Kind: kind}
		switch kind {
		case 1:
			n.Text = texts[r.Intn(len(texts))]
		case 3, 4, 11:
			n.Text = names[r.Intn(len(names))]
		case 10:
			n.Text = words[r.Intn(len(words))]
		case 6:
			n.Number = 1 + r.Intn(64)
		case 8, 9:
			n.Number = 1 + r.Intn(8)
		}
		if kind >= 7 {
			n.Parts = randomNodes(r, most-1, true)
		}
		l = append(l, n)
	}
	return l
}

// randomNode returns a node of any kind and with any fields.
func randomNode(r *rand.Rand) api.Node {
	texts := []string{"", "", "a", "e^", "^", "a b", "a'b", "_", times(17, "a"), times(65, "a")}
	numbers := []int{0, 0, 1, 8, 9, 64, 65, -1}
	n := api.Node{Kind: r.Intn(14) - 1, Text: texts[r.Intn(len(texts))], Number: numbers[r.Intn(len(numbers))]}
	if r.Intn(2) == 0 {
		n.Parts = list(text("x"))
	}
	return n
}

// spoil returns a list that is valid with something changed so that, in most cases, it is not.
func spoil(r *rand.Rand, l []api.Node) []api.Node {
	l = slices.Clone(l)
	if len(l) == 0 {
		return list(randomNode(r))
	}
	i := r.Intn(len(l))
	n := &l[i]
	if len(n.Parts) > 0 && r.Intn(3) > 0 {
		n.Parts = spoil(r, n.Parts)
		return l
	}
	with := randomNode(r)
	switch r.Intn(10) {
	case 0:
		n.Kind = with.Kind
	case 1:
		n.Text = with.Text
	case 2:
		n.Number = with.Number
	case 3:
		n.Parts = with.Parts
	case 4:
		*n = with
	case 5:
		l = slices.Delete(l, i, i+1)
	case 6:
		l = slices.Insert(l, i, l[r.Intn(len(l))])
	case 7:
		l = slices.Insert(l, i, text([]string{"", "y", "y", "^"}[r.Intn(4)]))
	case 8:
		l = slices.Insert(l, i, section([]string{"", "y", "y", "^"}[r.Intn(4)]))
	default:
		l = append(within(10+r.Intn(9), l[i:]...), l[:i]...)
	}
	return l
}

// P10.1, P10.2 and P10.3 for random lists, and for ones in which something is changed.
func TestRandom(t *testing.T) {
	counts := map[api.Errno]int{}
	depths := map[int]int{}
	r := rand.New(rand.NewSource(1))
	for range 10000 {
		l := randomNodes(r, r.Intn(5), false)
		if e := checkList(t, l); e != api.OK {
			t.Fatalf("%v: %d", l, e)
		}
		depth, _ := transcript.Depth(l)
		depths[depth]++
		checkString(t, marked(l))
		for range 1 + r.Intn(2) {
			l = spoil(r, l)
		}
		counts[checkList(t, l)]++
	}
	for _, e := range []api.Errno{api.OK, api.ErrKind, api.ErrEmpty, api.ErrChar, api.ErrName, api.ErrRange, api.ErrOrder, api.ErrTag, api.ErrLimit} {
		if counts[e] < 100 {
			t.Errorf("%d lists with the error %d", counts[e], e)
		}
	}
	for depth := range 5 {
		if depths[depth] < 100 {
			t.Errorf("%d lists of the depth %d", depths[depth], depth)
		}
	}
}

// P10.1 and P10.2 for random strings in which a byte is changed.
func TestParseRandom(t *testing.T) {
	counts := map[api.Errno]int{}
	r := rand.New(rand.NewSource(2))
	for range 20000 {
		s := marked(randomNodes(r, r.Intn(4), false))
		for range 1 + r.Intn(2) {
			at := r.Intn(len(s) + 1)
			with := "<>/ abdlnv01689^'_\xff\n"[r.Intn(20):][:1]
			switch r.Intn(3) {
			case 0:
				s = s[:at] + with + s[at:]
			case 1:
				s = s[:at] + s[min(at+1, len(s)):]
			default:
				s = s[:at] + with + s[min(at+1, len(s)):]
			}
		}
		counts[checkString(t, s)]++
	}
	for _, e := range []api.Errno{api.OK, api.ErrChar, api.ErrSyntax, api.ErrTag} {
		if counts[e] < 1000 {
			t.Errorf("%d strings with the error %d", counts[e], e)
		}
	}
}

// P10.4: two lists, one after the other.
func TestJoining(t *testing.T) {
	counts := map[bool]int{}
	r := rand.New(rand.NewSource(3))
	for range 10000 {
		a, b := randomNodes(r, r.Intn(4), false), randomNodes(r, r.Intn(4), false)
		if r.Intn(20) == 0 {
			a = nil
		}
		both := slices.Concat(a, b)
		s, _ := transcript.Characters(a)
		u, _ := transcript.Characters(b)
		d, _ := transcript.Depth(a)
		f, _ := transcript.Depth(b)
		isValid := transcript.Check(both) == api.OK
		counts[isValid]++
		if !isValid {
			// Characters end the first list, and begin the second one.
			if e := transcript.Check(both); e != api.ErrOrder {
				t.Fatalf("P10.4: Check(%v): %d", both, e)
			}
			both = transcript.Merge(both)
		}
		if w, e := transcript.Characters(both); w != s+u || e != api.OK {
			t.Fatalf("P10.4: Characters(%v): %q, %d", both, w, e)
		}
		if g, e := transcript.Depth(both); g != max(d, f) || e != api.OK {
			t.Fatalf("P10.4: Depth(%v): %d, %d", both, g, e)
		}
		for kind := 1; kind <= 11; kind++ {
			m, _ := transcript.Count(a, kind)
			n, _ := transcript.Count(b, kind)
			if kind == 1 && !isValid {
				n-- // the one that was merged
			}
			if c, e := transcript.Count(both, kind); c != m+n || e != api.OK {
				t.Fatalf("P10.4: Count(%v, %d): %d, %d", both, kind, c, e)
			}
		}
	}
	if counts[true] < 1000 || counts[false] < 300 {
		t.Error(counts)
	}
	// Two lists that have too many nodes, or are too long, together.
	for _, l := range [][]api.Node{lines(2049), list(line(), text(times(maxText/2, "a")))} {
		if e := transcript.Check(l); e != api.OK {
			t.Error(e)
		}
		if e := transcript.Check(slices.Concat(l, l)); e != api.ErrLimit {
			t.Error(e)
		}
	}
}

// P10.6: a further node around a list.
func TestWrapping(t *testing.T) {
	counts := map[api.Errno]int{}
	r := rand.New(rand.NewSource(4))
	for i := range 5000 {
		l := within(r.Intn(16), randomNodes(r, r.Intn(4), true)...)
		depth, e := transcript.Depth(l)
		if e != api.OK {
			continue
		}
		s, _ := transcript.Characters(l)
		for j, n := range []api.Node{unclear(l...), add(1+i%8, l...), del(8-i%8, l...), abbr("x^", l...), name("x", l...)} {
			d, e := transcript.Depth(list(n))
			counts[e]++
			if depth == maxDepth {
				if d != 0 || e != api.ErrArgument || transcript.Check(list(n)) != api.ErrLimit {
					t.Fatalf("P10.6: case %d: Depth(%v): %d, %d", j, n, d, e)
				}
				continue
			}
			if d != depth+1 || e != api.OK {
				t.Fatalf("P10.6: case %d: Depth(%v): %d, %d, not %d", j, n, d, e, depth+1)
			}
			if u, e := transcript.Characters(list(n)); u != s || e != api.OK {
				t.Fatalf("P10.6: case %d: Characters(%v): %q, %d", j, n, u, e)
			}
		}
	}
	if counts[api.OK] < 1000 || counts[api.ErrArgument] < 100 {
		t.Error(counts)
	}
}

// R1: lists that share memory, and huge ones.
func TestHuge(t *testing.T) {
	long := text(times(maxText, "a"))
	for i, c := range []struct {
		l    []api.Node
		want api.Errno
	}{
		{samples.Doubled(60), api.ErrLimit}, {samples.Doubled(12)[:1], api.ErrLimit}, {samples.Doubled(11)[:1], api.OK}, {append(list(api.Node{}), samples.Doubled(60)...), api.ErrLimit}, {list(api.Node{Kind: 1, Parts: samples.Doubled(100)}), api.ErrLimit}, {lines(1 << 20), api.ErrLimit}, {within(1<<16, long), api.ErrLimit}, {within(16, lines(1<<20)...), api.ErrLimit},
		// Together they are far longer than they are in memory.
		{slices.Repeat(list(long, line()), 200), api.ErrLimit}, {slices.Repeat(list(text(times(maxText-9, "a")), gap(1)), 200), api.ErrLimit}, {append(slices.Repeat(list(long, line()), 50), api.Node{}), api.ErrKind}, {slices.Repeat(list(long), 2), api.ErrOrder},
	} {
		if e := transcript.Check(c.l); e != c.want {
			t.Errorf("case %d: Check: %d", i, e)
		}
		_, e := transcript.Print(c.l)
		_, f := transcript.Characters(c.l)
		_, g := transcript.Depth(c.l)
		_, h := transcript.Count(c.l, 2)
		if (max(e, f, g, h) == api.OK) != (c.want == api.OK) || c.want != api.OK && min(e, f, g, h) != api.ErrArgument {
			t.Errorf("case %d: %d, %d, %d, %d", i, e, f, g, h)
		}
	}
	// What is left out or joined to other nodes need not be walked through.
	dropped := list(api.Node{Kind: 1, Parts: samples.Doubled(60)}, text("a"), api.Node{Kind: 1, Text: "b", Parts: samples.Doubled(60)})
	if m := transcript.Merge(dropped); !wantedSame(m, list(text("ab"))) {
		t.Error(brief(m))
	}
	if m := transcript.Merge(slices.Repeat(list(text("a"), text("")), 1<<19)); len(m) != 1 || m[0].Text != times(1<<19, "a") {
		t.Errorf("%d nodes", len(m))
	}
	deep := within(1<<16, text("a"), text(""), text("b"))
	if m := transcript.Merge(deep); !transcript.Same(m, within(1<<16, text("ab"))) || transcript.Same(m, deep) {
		t.Error("Merge, or Same, of a deep list")
	}
	if n, e := transcript.Parse(times(1<<22, "<unclear>")); n != nil || e != api.ErrLimit {
		t.Errorf("%d nodes, %d", len(n), e)
	}
}

// LANGUAGE 7: results are new memory, and no two lists of a result share memory.
func TestResultsAreNew(t *testing.T) {
	s := "de<add 1>us<unclear>a</unclear><unclear>b<lb/></unclear></add><lb/><add 2>c</add>"
	l := parse(t, s)
	samples.CheckNew(t, parse(t, s), l)
	samples.CheckNew(t, transcript.Merge(l), l)
	shared := unclear(text("a"), unclear(text("b")))
	l = list(shared, shared, text("c"), text("d"), within(3, shared)[0])
	samples.CheckNew(t, transcript.Merge(l), l)
	r := rand.New(rand.NewSource(5))
	for range 1000 {
		l := randomNodes(r, 4, false)
		samples.CheckNew(t, transcript.Merge(l), l)
		samples.CheckNew(t, parse(t, marked(l)), parse(t, marked(l)))
	}
}
