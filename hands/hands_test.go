package hands_test

import (
	"fmt"
	"math"
	"math/rand"
	"reflect"
	"regexp"
	"slices"
	"strconv"
	"strings"
	"testing"

	"apograph/api"
	"apograph/editdistance"
	"apograph/hands"
	"apograph/samples"
	"apograph/transcript"
)

// The functions down to outside restate the chapter's definitions in another way than the package does: on the strings that transcripts are marked up as, from tag to tag, with a stack of what is open; what has become empty is taken out until nothing is.

const (
	maxText  = 65536
	maxHand  = 8
	maxBytes = 256 // of strings that have a script
)

var (
	// A tag or characters: whether the tag closes, its name, its value, and whether it is empty.
	anyPart = regexp.MustCompile(`<(/?)([a-z]+) ?([^/>]*)(/?)>|[^<]+`)
	anyTag  = regexp.MustCompile(`<[^>]*>`)
	aPaired = regexp.MustCompile(`</?[a-z]+[^/>]*>`) // a tag that is not empty
	aLeaf   = regexp.MustCompile(`<[^>]*>|.`)
	aBreak  = regexp.MustCompile(`<(lb|pb|sec)[^>]*>`)
	aHand   = regexp.MustCompile(`<(?:add|del) ([1-8])>`)
	emptied = regexp.MustCompile(`<[a-z]+[^/>]*></[a-z]+>`)
)

// open is what a tag has opened: what closes it in the result, and whether what is in it is gone.
type open struct {
	closing string
	isGone  bool
}

// resolved returns what s is marked up as when the work of the hands up to hand is resolved; that of later hands remains if isKept.
func resolved(s string, hand int, isKept bool) string {
	var out strings.Builder
	stack := []open{{}}
	for _, m := range anyPart.FindAllStringSubmatch(s, -1) {
		last, name := stack[len(stack)-1], m[2]
		number, _ := strconv.Atoi(m[3])
		isLater := number > hand
		switch {
		case m[1] != "":
			out.WriteString(last.closing)
			stack = stack[:len(stack)-1]
		case name == "" || m[4] != "":
			if !last.isGone || aBreak.MatchString(m[0]) {
				out.WriteString(m[0])
			}
		case (name == "add" || name == "del") && !(isKept && isLater):
			stack = append(stack, open{"", last.isGone || (name == "add") == isLater})
		case last.isGone:
			stack = append(stack, open{"", true})
		default:
			out.WriteString(m[0])
			stack = append(stack, open{"</" + name + ">", false})
		}
	}
	result := out.String()
	for emptied.MatchString(result) {
		result = emptied.ReplaceAllString(result, "")
	}
	return result
}

// wanted is what the functions are to return for the transcript that is marked up as s: lists are what they are marked up as.
type wanted struct {
	s                string
	states, advanced [maxHand + 1]string
	greatest         int
	hands            []int
}

func wantedFor(s string) wanted {
	w := wanted{s: s}
	for _, m := range aHand.FindAllStringSubmatch(s, -1) {
		number, _ := strconv.Atoi(m[1])
		w.greatest = max(w.greatest, number)
	}
	for hand := range w.states {
		w.states[hand], w.advanced[hand] = resolved(s, hand, false), resolved(s, hand, true)
		if hand > 0 && w.states[hand] != w.states[hand-1] {
			w.hands = append(w.hands, hand)
		}
	}
	return w
}

// characters returns what s has outside of tags.
func characters(s string) string { return anyTag.ReplaceAllString(s, "") }

func breaks(s string) []string { return aBreak.FindAllString(s, -1) }

// leaves returns the characters and the empty tags of s.
func leaves(s string) []string { return aLeaf.FindAllString(aPaired.ReplaceAllString(s, ""), -1) }

// outside returns s without additions and deletions.
func outside(s string) string {
	var out strings.Builder
	var areWork []bool // whether what is open is an addition or deletion
	for _, m := range anyPart.FindAllStringSubmatch(s, -1) {
		if m[2] != "" && m[1] == "" && m[4] == "" {
			areWork = append(areWork, m[2] == "add" || m[2] == "del")
		}
		if !slices.Contains(areWork, true) {
			out.WriteString(m[0])
		}
		if m[1] != "" {
			areWork = areWork[:len(areWork)-1]
		}
	}
	return out.String()
}

// isSubsequence reports whether a results from b by leaving out elements.
func isSubsequence(a, b []string) bool {
	for _, x := range b {
		if len(a) > 0 && a[0] == x {
			a = a[1:]
		}
	}
	return len(a) == 0
}

// times returns a string n times.
func times(n int, s string) string { return strings.Repeat(s, n) }

// within returns what is made of a string by n steps, each of which puts a node around it.
func within(n int, s string, put func(i int, s string) string) string {
	for i := range n {
		s = put(i, s)
	}
	return s
}

// add and del return what an addition or a deletion is marked up as.
func add(hand int, s string) string { return fmt.Sprintf("<add %d>%s</add>", hand, s) }
func del(hand int, s string) string { return fmt.Sprintf("<del %d>%s</del>", hand, s) }

func unclear(_ int, s string) string { return "<unclear>" + s + "</unclear>" }

// parse returns the nodes of a marked-up string.
func parse(t *testing.T, s string) []api.Node {
	t.Helper()
	l, e := transcript.Parse(s)
	if e != api.OK {
		t.Fatalf("Parse(%.200q): %d", s, e)
	}
	return l
}

// checkPrints checks that a result is the list that is marked up as a string, and that there is no error.
func checkPrints(t *testing.T, what string, l []api.Node, e api.Errno, want string) {
	t.Helper()
	s, f := transcript.Print(l)
	if s != want || e != api.OK || f != api.OK {
		t.Fatalf("%s: %.300q, %d, %d, not %.300q", what, s, e, f, want)
	}
}

// about returns what is called for which string, for messages.
func about(promise, function, s string, hand int) string {
	return fmt.Sprintf("%s: %s(%.200q, %d)", promise, function, s, hand)
}

// checkAll checks what all functions return for the transcript that is marked up as s, and all promises of it.
func checkAll(t *testing.T, s string) {
	t.Helper()
	l, w := parse(t, s), wantedFor(s)
	given := samples.Copied(l)
	if n, e := hands.Count(l); n != w.greatest || e != api.OK {
		t.Fatalf("P11.1: Count(%.200q): %d, %d, not %d", s, n, e, w.greatest)
	}
	if is, e := hands.Clean(l); is != (w.greatest == 0) || e != api.OK {
		t.Fatalf("P11.4: Clean(%.200q): %t, %d", s, is, e)
	}
	last, _ := hands.State(l, w.greatest)
	for hand := 0; hand <= maxHand; hand++ {
		state, e := hands.State(l, hand)
		checkPrints(t, about("P11.1", "State", s, hand), state, e, w.states[hand])
		advanced, e := hands.Advance(l, hand)
		checkPrints(t, about("P11.1", "Advance", s, hand), advanced, e, w.advanced[hand])
		if hand >= w.greatest && !(transcript.Same(state, last) && transcript.Same(advanced, last)) {
			t.Fatalf("%s: %v and %v, not %v", about("P11.4", "State and Advance", s, hand), state, advanced, last)
		}
		// Behind the greatest hand all is as it is for this one.
		if hand <= w.greatest {
			checkState(t, s, state, hand)
			checkSteps(t, w, advanced, hand)
		}
	}
	for hand := 1; hand <= maxHand; hand++ {
		checkHand(t, w, l, hand)
	}
	if k, e := hands.Hands(l); !slices.Equal(k, w.hands) || e != api.OK {
		t.Fatalf("P11.7: Hands(%.200q): %v, %d, not %v", s, k, e, w.hands)
	}
	checkNoHands(t, l)
	if !reflect.DeepEqual(l, given) {
		t.Fatalf("%.200q: %v was changed to %v", s, given, l)
	}
}

// checkState checks what holds of the state of s behind a hand. P11.3, P11.5 and P11.8.
func checkState(t *testing.T, s string, state []api.Node, hand int) {
	t.Helper()
	what := about("P11.3", "State", s, hand)
	if e := transcript.Check(state); e != api.OK {
		t.Fatalf("%s: Check: %d", what, e)
	}
	if merged := transcript.Merge(state); !transcript.Same(merged, state) {
		t.Fatalf("%s: %v is not merged", what, state)
	}
	n, e := hands.Count(state)
	is, f := hands.Clean(state)
	all, g := hands.Hands(state)
	if n != 0 || !is || len(all) != 0 || max(e, f, g) != api.OK {
		t.Fatalf("%s: %d, %t, %v", what, n, is, all)
	}
	p, _ := transcript.Print(state)
	for _, other := range []int{0, 1, hand, maxHand} {
		again, e := hands.State(state, other)
		checkPrints(t, what, again, e, p)
		again, e = hands.Advance(state, other)
		checkPrints(t, what, again, e, p)
	}
	if l := breaks(p); !slices.Equal(l, breaks(s)) {
		t.Fatalf("%s: %v", about("P11.5", "State", s, hand), l)
	}
	if !isSubsequence(leaves(outside(s)), leaves(p)) || !isSubsequence(leaves(p), leaves(s)) {
		t.Fatalf("%s: %.200q", about("P11.8", "State", s, hand), p)
	}
}

// checkSteps checks what further steps make of what was advanced to a hand. P11.2.
func checkSteps(t *testing.T, w wanted, advanced []api.Node, hand int) {
	t.Helper()
	what := fmt.Sprintf("P11.2: Advance(%.200q, %d)", w.s, hand)
	if e := transcript.Check(advanced); e != api.OK {
		t.Fatalf("%s: Check: %d", what, e)
	}
	for next := 0; next <= min(w.greatest+1, maxHand); next++ {
		state, e := hands.State(advanced, next)
		checkPrints(t, fmt.Sprintf("%s, and then State for %d", what, next), state, e, w.states[max(hand, next)])
		again, e := hands.Advance(advanced, next)
		checkPrints(t, fmt.Sprintf("%s, and then Advance for %d", what, next), again, e, w.advanced[max(hand, next)])
	}
}

// checkHand checks what Touches and Changes return. P11.6 and P11.7.
func checkHand(t *testing.T, w wanted, l []api.Node, hand int) {
	t.Helper()
	touches, e := hands.Touches(l, hand)
	if want := slices.Contains(w.hands, hand); touches != want || e != api.OK {
		t.Fatalf("%s: %t, %d", about("P11.7", "Touches", w.s, hand), touches, e)
	}
	from, to := characters(w.states[hand-1]), characters(w.states[hand])
	changes, e := hands.Changes(l, hand)
	if want, f := editdistance.Script(from, to); !slices.Equal(changes, want) || e != f {
		t.Fatalf("%s: %v, %d, not %v, %d", about("P11.1", "Changes", w.s, hand), changes, e, want, f)
	}
	if e != api.OK {
		return
	}
	if !touches && len(changes) > 0 {
		t.Fatalf("%s: %v without a touch", about("P11.7", "Changes", w.s, hand), changes)
	}
	if back, e := editdistance.Apply(from, changes); back != to || e != api.OK {
		t.Fatalf("%s: %v lead to %q, %d", about("P11.6", "Changes", w.s, hand), changes, back, e)
	}
	if n, _ := editdistance.Distance(from, to); n != len(changes) {
		t.Fatalf("%s: %d edits, not %d", about("P11.6", "Changes", w.s, hand), len(changes), n)
	}
}

// checkErrors checks that State, Advance, Touches and Changes return an error, and nothing else.
func checkErrors(t *testing.T, l []api.Node, hand int, ofStates, ofHands api.Errno) {
	t.Helper()
	if ofStates != api.OK {
		state, e := hands.State(l, hand)
		advanced, f := hands.Advance(l, hand)
		if len(state) != 0 || len(advanced) != 0 || e != ofStates || f != ofStates {
			t.Fatalf("P11.1: State and Advance(%.200s, %d): %v, %d, and %v, %d, not %d", fmt.Sprint(l), hand, state, e, advanced, f, ofStates)
		}
	}
	touches, e := hands.Touches(l, hand)
	changes, f := hands.Changes(l, hand)
	if touches || len(changes) != 0 || e != ofHands || f != ofHands {
		t.Fatalf("P11.1: Touches and Changes(%.200s, %d): %t, %d, and %v, %d, not %d", fmt.Sprint(l), hand, touches, e, changes, f, ofHands)
	}
}

// checkNoHands checks the errors for a valid list and numbers that are no hands.
func checkNoHands(t *testing.T, l []api.Node) {
	t.Helper()
	for _, hand := range []int{-1, 9, 10, math.MinInt, math.MaxInt, 1<<32 + 1} {
		checkErrors(t, l, hand, api.ErrHand, api.ErrHand)
	}
	checkErrors(t, l, 0, api.OK, api.ErrHand)
}

// byHand is a string with what it is resolved to: for the hands from 0 on; the last one is for all further ones, too.
type byHand struct {
	s    string
	want []string
}

// at returns what s is resolved to for a hand.
func (c byHand) at(hand int) string { return c.want[min(hand, len(c.want)-1)] }

// check checks what State, or Advance, returns for each hand.
func (c byHand) check(t *testing.T, name string, resolve func(l []api.Node, hand int) ([]api.Node, api.Errno)) {
	t.Helper()
	l := parse(t, c.s)
	for hand := 0; hand <= maxHand; hand++ {
		result, e := resolve(l, hand)
		checkPrints(t, about("P11.1", name, c.s, hand), result, e, c.at(hand))
	}
}

// all returns a list of strings.
func all(l ...string) []string { return l }

// The examples of the chapter, and those of the document.
func TestExamples(t *testing.T) {
	for _, c := range []byHand{
		{"de<add 1>u</add>s", all("des", "deus")},
		{"a<del 2>b<lb/></del>", all("ab<lb/>", "ab<lb/>", "a<lb/>")},
		{"de<add 1>us</add> est", all("de est", "deus est")},
	} {
		c.check(t, "State", hands.State)
		checkAll(t, c.s)
	}
}

// statesByHand has the cases that the chapter names.
func statesByHand() []byHand {
	return []byHand{
		// Without hands.
		{"", all("")}, {"deus", all("deus")}, {"<sec I/><pb 1/><lb/>deus<v/><gap 3/>", all("<sec I/><pb 1/><lb/>deus<v/><gap 3/>")}, {"a<unclear>b</unclear><ab dns>c</ab><name R>d</name>", all("a<unclear>b</unclear><ab dns>c</ab><name R>d</name>")}, {"<unclear><ab x><name R><lb/></name></ab></unclear>", all("<unclear><ab x><name R><lb/></name></ab></unclear>")}, {"<ab 2>a</ab><name 1>b</name><pb 1/><gap 1/>", all("<ab 2>a</ab><name 1>b</name><pb 1/><gap 1/>")},
		// An addition in a deletion: by the same hand, by an earlier one, and by a later one, which then never comes to be.
		{"<del 1>a<add 1>b</add></del>", all("a", "")}, {"<del 2>a<add 1>b</add></del>", all("a", "ab", "")}, {"<del 1>a<add 2>b</add></del>", all("a", "", "")}, {"x<del 1>a<add 2>b</add>c</del>y", all("xacy", "xy", "xy")}, {"<del 1><add 2>a</add></del>", all("")}, {"<del 1>a<unclear><add 2>b</add></unclear></del>", all("a", "", "")}, {"<del 1><add 2>a<add 3>b</add><del 4>c</del></add></del>", all("")}, {"<del 1>a<add 2>b<lb/>c</add></del>", all("a<lb/>", "<lb/>", "<lb/>")},
		// A deletion in an addition.
		{"<add 1>a<del 1>b</del></add>", all("", "a")}, {"<add 2>a<del 1>b</del></add>", all("", "", "a")}, {"<add 1>a<del 2>b</del></add>", all("", "ab", "a")}, {"<add 2><del 1>a</del></add>", all("")}, {"<add 1><del 3>a</del></add>", all("", "a", "a", "")},
		// Of the same sort.
		{"<add 1>a<add 2>b</add></add>", all("", "a", "ab")}, {"<add 2>a<add 1>b</add></add>", all("", "", "ab")}, {"<add 1>a<add 1>b</add></add>", all("", "ab")}, {"<del 1>a<del 2>b</del></del>", all("ab", "", "")}, {"<del 2>a<del 1>b</del></del>", all("ab", "a", "")}, {"<del 1>a<del 1>b</del></del>", all("ab", "")},
		{"<add 1><del 2><add 3>a</add>b</del>c</add>", all("", "bc", "c", "c")}, {"<del 3><add 1><del 2>a</del>b</add>c</del>", all("c", "abc", "bc", "")}, {"<add 3><del 2><add 1>a</add></del></add>", all("")}, {"<del 3><del 2><add 1>a</add>b</del>c</del>", all("bc", "abc", "c", "")},
		// A replacement, and several ones of the same characters.
		{"<del 1>a</del><add 1>b</add>", all("a", "b")}, {"<del 1>a</del><add 1><del 2>b</del></add><add 2>c</add>", all("a", "b", "c")}, {"re<del 1>x</del><add 1>ges</add>", all("rex", "reges")},
		// Breaks stay, at any depth, where all else goes.
		{"<add 1>a<lb/>b</add>", all("<lb/>", "a<lb/>b")}, {"<del 1>a<lb/>b</del>", all("a<lb/>b", "<lb/>")}, {"<add 1><pb 1r/><lb/><pb 1v/><lb/></add>", all("<pb 1r/><lb/><pb 1v/><lb/>")}, {"<del 1><pb 1r/><lb/><pb 1v/><lb/></del>", all("<pb 1r/><lb/><pb 1v/><lb/>")}, {"<sec I/><add 1><pb 2/></add><sec II/><del 1><lb/></del><sec III/>", all("<sec I/><pb 2/><sec II/><lb/><sec III/>")},
		{"<del 1>a<unclear>b<lb/><ab x>c<pb 1/>d</ab></unclear><name R>e<unclear><unclear><lb/></unclear></unclear></name></del>", all("a<unclear>b<lb/><ab x>c<pb 1/>d</ab></unclear><name R>e<unclear><unclear><lb/></unclear></unclear></name>", "<lb/><pb 1/><lb/>")},
		{"<add 1>a<unclear>b<lb/><ab x>c<pb 1/>d</ab></unclear><name R>e<unclear><unclear><lb/></unclear></unclear></name></add>", all("<lb/><pb 1/><lb/>", "a<unclear>b<lb/><ab x>c<pb 1/>d</ab></unclear><name R>e<unclear><unclear><lb/></unclear></unclear></name>")},
		{"<add 3>a<lb/><del 1>b<pb 1/><add 2>c<lb/>d</add></del></add>", all("<lb/><pb 1/><lb/>", "<lb/><pb 1/><lb/>", "<lb/><pb 1/><lb/>", "a<lb/><pb 1/><lb/>")}, {"<unclear><del 1>a<lb/></del></unclear>", all("<unclear>a<lb/></unclear>", "<unclear><lb/></unclear>")}, {"<unclear><add 2>a<unclear><lb/></unclear></add></unclear>", all("<unclear><lb/></unclear>", "<unclear><lb/></unclear>", "<unclear>a<unclear><lb/></unclear></unclear>")},
		// What is no break goes.
		{"<add 1><v/><gap 2/></add>", all("", "<v/><gap 2/>")}, {"<del 1><v/><gap 2/></del>", all("<v/><gap 2/>", "")}, {"<del 1><v/><lb/><gap 2/></del>", all("<v/><lb/><gap 2/>", "<lb/>")},
		// Nodes with Parts are resolved, and go if they become empty, also within each other.
		{"<unclear>a<add 1>b</add></unclear>", all("<unclear>a</unclear>", "<unclear>ab</unclear>")}, {"<ab x>a<del 1>b</del></ab>", all("<ab x>ab</ab>", "<ab x>a</ab>")}, {"<name R>a<del 1>b</del><add 1>c</add></name>", all("<name R>ab</name>", "<name R>ac</name>")}, {"<unclear><add 1>a</add></unclear>", all("", "<unclear>a</unclear>")}, {"<ab x><add 1>a</add></ab>", all("", "<ab x>a</ab>")}, {"<name R><del 1>a</del></name>", all("<name R>a</name>", "")},
		{"<unclear><ab x><name R><add 1>a</add></name></ab></unclear>", all("", "<unclear><ab x><name R>a</name></ab></unclear>")}, {"x<unclear><ab x><add 1>a</add></ab><name R>b</name></unclear>y", all("x<unclear><name R>b</name></unclear>y", "x<unclear><ab x>a</ab><name R>b</name></unclear>y")}, {"<unclear><del 1>a</del><del 2>b</del></unclear>", all("<unclear>ab</unclear>", "<unclear>b</unclear>", "")}, {"<add 2><unclear><del 1>a</del></unclear>b</add>", all("", "", "b")}, {"<unclear><unclear><unclear><del 1>a</del></unclear></unclear></unclear>", all("<unclear><unclear><unclear>a</unclear></unclear></unclear>", "")}, {"<name R><del 1>a</del><add 1><v/></add></name>", all("<name R>a</name>", "<name R><v/></name>")},
		// Characters that come to stand next to each other.
		{"a<add 1>b</add>c", all("ac", "abc")}, {"a<del 1>b</del>c", all("abc", "ac")}, {"a<add 1><v/></add>c", all("ac", "a<v/>c")}, {"a<unclear><add 1>b</add></unclear>c", all("ac", "a<unclear>b</unclear>c")}, {"a<add 1>b</add><add 2>c</add><del 1>d</del>e", all("ade", "abe", "abce")}, {"<unclear>a<del 1><gap 1/></del>b</unclear>", all("<unclear>a<gap 1/>b</unclear>", "<unclear>ab</unclear>")}, {"a<add 1><add 2>b</add></add>c", all("ac", "ac", "abc")}, {"e^<add 1>e^~</add>e", all("e^e", "e^e^~e")}, {"<unclear>a</unclear><add 1>b</add><unclear>c</unclear>", all("<unclear>a</unclear><unclear>c</unclear>", "<unclear>a</unclear>b<unclear>c</unclear>")}, {"a<add 1><lb/></add>c", all("a<lb/>c")},
		// Lists that become empty.
		{"<add 1>a</add>", all("", "a")}, {"<del 1>a</del>", all("a", "")}, {"<add 8>a</add><del 1>b</del>", all("b", "", "", "", "", "", "", "", "a")}, {"<add 1>a</add><unclear><add 1>b</add></unclear>", all("", "a<unclear>b</unclear>")},
	}
}

// P11.1 for State.
func TestStates(t *testing.T) {
	for _, c := range statesByHand() {
		c.check(t, "State", hands.State)
		checkAll(t, c.s)
	}
}

// P11.1 and P11.2 for Advance.
func TestAdvance(t *testing.T) {
	for _, c := range []byHand{
		{"", all("")}, {"deus", all("deus")}, {"a<unclear><lb/></unclear><gap 1/>", all("a<unclear><lb/></unclear><gap 1/>")},
		// The work of later hands remains.
		{"<add 2>a</add>", all("<add 2>a</add>", "<add 2>a</add>", "a")}, {"<del 2>a</del>", all("<del 2>a</del>", "<del 2>a</del>", "")}, {"<add 1>a</add><del 1>b</del>", all("<add 1>a</add><del 1>b</del>", "a")}, {"<add 1>a</add><add 2>b</add><add 3>c</add>", all("<add 1>a</add><add 2>b</add><add 3>c</add>", "a<add 2>b</add><add 3>c</add>", "ab<add 3>c</add>", "abc")}, {"<add 3>a</add>", all("<add 3>a</add>", "<add 3>a</add>", "<add 3>a</add>", "a")},
		{"<add 2><lb/></add><del 2><pb 1/></del>", all("<add 2><lb/></add><del 2><pb 1/></del>", "<add 2><lb/></add><del 2><pb 1/></del>", "<lb/><pb 1/>")},
		// With its Parts advanced.
		{"<add 2>a<add 1>b</add>c</add>", all("<add 2>a<add 1>b</add>c</add>", "<add 2>abc</add>", "abc")}, {"<del 2>a<del 1>b</del>c</del>", all("<del 2>a<del 1>b</del>c</del>", "<del 2>ac</del>", "")}, {"<del 2>a<add 1>b</add></del>", all("<del 2>a<add 1>b</add></del>", "<del 2>ab</del>", "")}, {"<add 3><unclear>a<del 1>b</del></unclear><del 2>c</del></add>", all("<add 3><unclear>a<del 1>b</del></unclear><del 2>c</del></add>", "<add 3><unclear>a</unclear><del 2>c</del></add>", "<add 3><unclear>a</unclear></add>", "<unclear>a</unclear>")}, {"<add 3><del 1>a<lb/></del></add>", all("<add 3><del 1>a<lb/></del></add>", "<add 3><lb/></add>", "<add 3><lb/></add>", "<lb/>")}, {"<del 2>a<add 3>b</add></del>", all("<del 2>a<add 3>b</add></del>", "<del 2>a<add 3>b</add></del>", "")},
		// What becomes empty goes.
		{"<add 2><del 1>a</del></add>", all("<add 2><del 1>a</del></add>", "")}, {"<del 2><del 1>a</del></del>", all("<del 2><del 1>a</del></del>", "")}, {"x<add 2><unclear><del 1>a</del></unclear></add>y", all("x<add 2><unclear><del 1>a</del></unclear></add>y", "xy")}, {"<unclear><add 3><del 2><del 1>a</del></del></add></unclear>", all("<unclear><add 3><del 2><del 1>a</del></del></add></unclear>", "")}, {"<add 3><del 1>a</del><add 2>b</add></add>", all("<add 3><del 1>a</del><add 2>b</add></add>", "<add 3><add 2>b</add></add>", "<add 3>b</add>", "b")}, {"<unclear><del 1>a</del></unclear><add 2>b</add>", all("<unclear><del 1>a</del></unclear><add 2>b</add>", "<add 2>b</add>", "b")},
		// What is within a deletion of a hand up to the one given goes with it.
		{"<del 1>a<add 2>b</add></del>c", all("<del 1>a<add 2>b</add></del>c", "c")}, {"<del 1>a<del 2>b</del></del>c", all("<del 1>a<del 2>b</del></del>c", "c")}, {"<del 1>a<add 2>b<lb/><del 3>c<pb 1/></del></add></del>", all("<del 1>a<add 2>b<lb/><del 3>c<pb 1/></del></add></del>", "<lb/><pb 1/>")}, {"<del 1><unclear><add 2>b</add></unclear></del>", all("<del 1><unclear><add 2>b</add></unclear></del>", "")}, {"<add 3>x<del 1>a<add 2>b</add></del></add>", all("<add 3>x<del 1>a<add 2>b</add></del></add>", "<add 3>x</add>", "<add 3>x</add>", "x")},
		// In an addition of such a hand it remains.
		{"<add 1>a<add 2>b</add><del 3>c</del></add>", all("<add 1>a<add 2>b</add><del 3>c</del></add>", "a<add 2>b</add><del 3>c</del>", "ab<del 3>c</del>", "ab")},
		// Characters are merged, also in what remains; nodes of the work of one hand are not.
		{"a<add 1>b</add>c<add 2>d<add 1>e</add>f</add>", all("a<add 1>b</add>c<add 2>d<add 1>e</add>f</add>", "abc<add 2>def</add>", "abcdef")}, {"<add 2>a</add><del 1>b</del><add 2>c</add>", all("<add 2>a</add><del 1>b</del><add 2>c</add>", "<add 2>a</add><add 2>c</add>", "ac")}, {"a<add 2><del 1>b</del></add>c", all("a<add 2><del 1>b</del></add>c", "ac")},
		{"<add 8>a</add><del 8>b</del><add 7>c</add>", all("<add 8>a</add><del 8>b</del><add 7>c</add>", "<add 8>a</add><del 8>b</del><add 7>c</add>", "<add 8>a</add><del 8>b</del><add 7>c</add>", "<add 8>a</add><del 8>b</del><add 7>c</add>", "<add 8>a</add><del 8>b</del><add 7>c</add>", "<add 8>a</add><del 8>b</del><add 7>c</add>", "<add 8>a</add><del 8>b</del><add 7>c</add>", "<add 8>a</add><del 8>b</del>c", "ac")},
	} {
		c.check(t, "Advance", hands.Advance)
		checkAll(t, c.s)
	}
}

// P11.1, P11.5 and P11.8: each kind outside of an addition, in one, and in a deletion.
func TestKinds(t *testing.T) {
	for _, c := range []struct {
		s                       string
		outside, added, deleted []string // for the hands 0, 1 and 2
	}{
		{"b", all("b"), all("", "b"), all("b", "")},
		{"<lb/>", all("<lb/>"), all("<lb/>"), all("<lb/>")},
		{"<pb 2r/>", all("<pb 2r/>"), all("<pb 2r/>"), all("<pb 2r/>")},
		{"<sec I/>", all("<sec I/>"), nil, nil},
		{"<v/>", all("<v/>"), all("", "<v/>"), all("<v/>", "")},
		{"<gap 3/>", all("<gap 3/>"), all("", "<gap 3/>"), all("<gap 3/>", "")},
		{"<unclear>b</unclear>", all("<unclear>b</unclear>"), all("", "<unclear>b</unclear>"), all("<unclear>b</unclear>", "")},
		{"<add 2>b</add>", all("", "", "b"), all("", "", "b"), all("")},
		{"<del 2>b</del>", all("b", "b", ""), all("", "b", ""), all("b", "", "")},
		{"<ab q>b</ab>", all("<ab q>b</ab>"), all("", "<ab q>b</ab>"), all("<ab q>b</ab>", "")},
		{"<name N>b</name>", all("<name N>b</name>"), all("", "<name N>b</name>"), all("<name N>b</name>", "")},
	} {
		for _, d := range []byHand{{c.s, c.outside}, {add(1, c.s), c.added}, {del(1, c.s), c.deleted}} {
			if d.want == nil {
				// Sections are not in Parts.
				n := api.Node{Kind: api.SectionNode, Text: "I"}
				for _, kind := range []int{api.AddNode, api.DeleteNode} {
					checkWrong(t, []api.Node{{Kind: kind, Number: 1, Parts: []api.Node{n}}})
				}
				continue
			}
			d.check(t, "State", hands.State)
			between := byHand{s: "<gap 1/>" + d.s + "<gap 2/>"}
			for _, want := range d.want {
				between.want = append(between.want, "<gap 1/>"+want+"<gap 2/>")
			}
			between.check(t, "State", hands.State)
			checkAll(t, d.s)
			checkAll(t, "a"+d.s+"c")
			checkAll(t, "<v/>"+d.s+"<lb/>")
		}
	}
}

// P11.1 and P11.7: additions and deletions of each hand, resolved up to each hand.
func TestEachHand(t *testing.T) {
	for n := 1; n <= maxHand; n++ {
		s := "x" + add(n, "y") + "z" + del(n, "w")
		l := parse(t, s)
		for hand := 0; hand <= maxHand; hand++ {
			want, left := "xzw", s
			if hand >= n {
				want, left = "xyz", "xyz"
			}
			state, e := hands.State(l, hand)
			checkPrints(t, about("P11.1", "State", s, hand), state, e, want)
			advanced, e := hands.Advance(l, hand)
			checkPrints(t, about("P11.1", "Advance", s, hand), advanced, e, left)
			if is, e := hands.Touches(l, hand); hand > 0 && (is != (hand == n) || e != api.OK) {
				t.Errorf("Touches(%q, %d): %t, %d", s, hand, is, e)
			}
		}
		// xzw to xyz: from the end, w is replaced by z, and z by y.
		want := []api.Edit{{At: 1, Length: 1, Text: "y"}, {At: 2, Length: 1, Text: "z"}}
		if changes, e := hands.Changes(l, n); !slices.Equal(changes, want) || e != api.OK {
			t.Errorf("Changes(%q, %d): %v, %d", s, n, changes, e)
		}
		if k, e := hands.Count(l); k != n || e != api.OK {
			t.Errorf("Count(%q): %d, %d", s, k, e)
		}
		if k, e := hands.Hands(l); !slices.Equal(k, []int{n}) || e != api.OK {
			t.Errorf("Hands(%q): %v, %d", s, k, e)
		}
		checkAll(t, s)
	}
}

// P11.1 and P11.5: the work of each hand within that of each hand. A character is there if all additions around it have been made, and none of the deletions.
func TestWithin(t *testing.T) {
	sorts := []func(hand int, s string) string{add, del}
	isThere := []func(n, hand int) bool{func(n, hand int) bool { return n <= hand }, func(n, hand int) bool { return n > hand }}
	for i := range 4 {
		outer, inner := i/2, i%2
		for m := 1; m <= maxHand; m++ {
			for n := 1; n <= maxHand; n++ {
				s := sorts[outer](m, "a<lb/>"+sorts[inner](n, "b<pb 1/>"))
				for hand := 0; hand <= maxHand; hand++ {
					want := "<lb/><pb 1/>"
					if isThere[outer](m, hand) {
						want = "a<lb/><pb 1/>"
						if isThere[inner](n, hand) {
							want = "a<lb/>b<pb 1/>"
						}
					}
					l, e := hands.State(parse(t, s), hand)
					checkPrints(t, about("P11.1", "State", s, hand), l, e, want)
				}
				checkAll(t, s)
			}
		}
	}
}

// P11.1 and P11.4 for Count and Clean: hands at any depth, and within additions and deletions.
func TestCount(t *testing.T) {
	for _, c := range []struct {
		s    string
		want int
	}{
		{"", 0}, {"a", 0}, {"<unclear><ab x><name R>a</name></ab></unclear>", 0}, {"<gap 8/><pb 7/><sec 6/><ab 5>a</ab><name 4>b</name>", 0}, {"<gap 64/>", 0},
		{"<add 1>a</add>", 1}, {"<del 1>a</del>", 1}, {"<add 8>a</add>", 8}, {"<del 8>a</del>", 8}, {"<add 3>a</add><add 2>b</add>", 3}, {"<add 2>a</add><add 3>b</add>", 3}, {"<del 3>a</del><add 2>b</add>", 3}, {"<add 2>a</add><del 3>b</del>", 3}, {"<add 1>a</add><gap 9/>", 1}, {"<add 4><gap 9/></add>", 4},
		{"a<unclear>b<add 5>c</add></unclear>", 5}, {"<ab x><del 6>c</del></ab>", 6}, {"<name x>a<unclear><del 7>c</del></unclear></name>b", 7}, {"<add 1>a<add 2>b</add></add>", 2}, {"<add 2>a<add 1>b</add></add>", 2}, {"<del 1>a<add 4>b</add></del>", 4}, {"<del 4>a<del 1>b</del></del>", 4}, {"<add 1><unclear><del 2><name R><add 3>a</add></name></del></unclear></add><add 2>b</add>", 3},
		{within(16, "a", func(i int, s string) string { return add(1+i%7, s) }), 7}, {within(15, del(6, "a"), unclear), 6}, {within(16, "a", unclear), 0}, {times(4094, "<v/>") + "<del 1>a</del>", 1}, {times(4096, "<v/>"), 0},
	} {
		l := parse(t, c.s)
		n, e := hands.Count(l)
		is, f := hands.Clean(l)
		if n != c.want || is != (c.want == 0) || e != api.OK || f != api.OK {
			t.Errorf("P11.4: Count and Clean(%.200q): %d, %d, and %t, %d, not %d", c.s, n, e, is, f, c.want)
		}
	}
}

// P11.7: hands that touch a transcript, in ascending order, and hands that change nothing.
func TestHands(t *testing.T) {
	for _, c := range []struct {
		s    string
		want []int
	}{
		{"", nil}, {"a<unclear>b</unclear>", nil}, {"<add 1>a</add>", []int{1}}, {"<del 8>a</del>", []int{8}}, {"<add 8>a</add><del 1>b</del><add 4>c</add>", []int{1, 4, 8}}, {"<add 3><add 2><add 1>a</add>b</add>c</add>", []int{3}}, {"<del 3>a<del 2>b<del 1>c</del></del></del>", []int{1, 2, 3}},
		{"<add 8>h</add><add 7>g</add><add 6>f</add><add 5>e</add><del 4>d</del><del 3>c</del><del 2>b</del><del 1>a</del>", []int{1, 2, 3, 4, 5, 6, 7, 8}},
		// Only breaks are added or deleted.
		{"<add 1><lb/></add>", nil}, {"<del 2>a<add 1><pb 1/></add></del>", []int{2}}, {"<del 3><lb/><pb 1/></del><add 2>a</add>", []int{2}},
		// The same stands there again.
		{"<del 1>a</del><add 1>a</add>", nil}, {"a<del 1>b</del><add 1>b</add>c", nil}, {"<del 1>ab</del><add 1>a</add><add 1>b</add>", nil}, {"<del 1><v/></del><add 1><v/></add>", nil}, {"<del 1>a</del><add 2>a</add>", []int{1, 2}},
		// The characters stay the same, but not the nodes.
		{"<del 1>a</del><add 1><unclear>a</unclear></add>", []int{1}}, {"<add 1><unclear><lb/></unclear></add>", []int{1}}, {"<add 1><v/></add>", []int{1}}, {"<del 1><gap 1/></del><add 1><gap 2/></add>", []int{1}}, {"<del 1><ab x>a</ab></del><add 1><ab y>a</ab></add>", []int{1}}, {"<del 1><name x>a</name></del><add 1><name y>a</name></add>", []int{1}}, {"<del 1>a</del><lb/><add 1>a</add>", []int{1}}, {"<unclear><del 1><v/></del></unclear>a", []int{1}},
		// What another hand deleted, or had not added, cannot change.
		{"<del 1>a<add 2>b</add></del>", []int{1}}, {"<del 1>a<del 2>b</del></del>", []int{1}}, {"<add 2><del 1>a</del></add>", nil}, {"<add 2>a<del 1>b</del></add>", []int{2}}, {"<add 1><del 1>a</del></add>", nil}, {"<del 1><add 1>a</add></del>", nil}, {"<del 1><add 2><lb/>a</add></del>", nil}, {"<add 1><del 2>a</del></add>", []int{1, 2}}, {"<del 2><add 1>a</add></del>", []int{1, 2}},
	} {
		l := parse(t, c.s)
		if k, e := hands.Hands(l); !slices.Equal(k, c.want) || e != api.OK {
			t.Errorf("P11.7: Hands(%q): %v, %d, not %v", c.s, k, e, c.want)
		}
		for hand := 1; hand <= maxHand; hand++ {
			if is, e := hands.Touches(l, hand); is != slices.Contains(c.want, hand) || e != api.OK {
				t.Errorf("P11.7: Touches(%q, %d): %t, %d", c.s, hand, is, e)
			}
		}
		checkAll(t, c.s)
	}
}

// P11.6: changes between the characters of states, wherever they stand.
func TestChanges(t *testing.T) {
	for _, c := range []struct {
		s    string
		hand int
		want []api.Edit
	}{
		{"", 1, nil}, {"a", 8, nil}, {"de<add 1>u</add>s", 1, []api.Edit{{At: 2, Text: "u"}}}, {"de<add 1>u</add>s", 2, nil}, {"de<del 3>u</del>s", 3, []api.Edit{{At: 2, Length: 1}}}, {"re<del 8>x</del><add 8>s</add>", 8, []api.Edit{{At: 2, Length: 1, Text: "s"}}},
		{"a<unclear>b<add 1>c</add></unclear>", 1, []api.Edit{{At: 2, Text: "c"}}}, {"a<lb/><name R><del 2>b</del></name>c", 2, []api.Edit{{At: 1, Length: 1}}}, {"<add 2>a</add><add 1>b</add>", 2, []api.Edit{{At: 0, Text: "a"}}}, {"<add 2>a</add><add 1>b</add>", 1, []api.Edit{{At: 0, Text: "b"}}},
		// In the characters it cannot be seen which one of two equal ones was added.
		{"<add 1>a</add>a", 1, []api.Edit{{At: 0, Text: "a"}}}, {"a<add 1>a</add>", 1, []api.Edit{{At: 0, Text: "a"}}},
		// Nothing that the characters show.
		{"<add 1><lb/><v/><gap 3/></add>", 1, nil}, {"<del 1>a</del><add 1><unclear>a</unclear></add>", 1, nil}, {"<del 1>a<add 2>b</add></del>", 2, nil}, {"<ab dns><unclear>a</unclear></ab><add 1><v/></add>", 1, nil},
	} {
		if l, e := hands.Changes(parse(t, c.s), c.hand); !slices.Equal(l, c.want) || e != api.OK {
			t.Errorf("P11.6: Changes(%q, %d): %v, %d, not %v", c.s, c.hand, l, e, c.want)
		}
		checkAll(t, c.s)
	}
}

// P11.1 and P11.6: states with as many characters as a script can have, and with more. That is an error of Changes only, and comes behind all others.
func TestLongChanges(t *testing.T) {
	longest, longer := times(maxBytes, "a"), times(maxBytes+1, "a")
	for i, c := range []struct {
		s    string
		hand int
		n    int // the length of the script
		e    api.Errno
	}{
		{longest, 1, 0, api.OK}, {longer, 1, 0, api.ErrLimit}, {longer, 8, 0, api.ErrLimit}, {"<add 1>" + longest + "</add>", 1, maxBytes, api.OK}, {"<add 1>" + longer + "</add>", 1, 0, api.ErrLimit}, {"<del 1>" + longest + "</del>", 1, maxBytes, api.OK}, {"<del 1>" + longer + "</del>", 1, 0, api.ErrLimit},
		{"<del 2>" + longest + "</del><add 2>" + longest + "</add>", 2, 0, api.OK}, {longest + "<add 3>b</add>", 3, 0, api.ErrLimit}, {longest + "<add 3>b</add>", 2, 0, api.OK}, {longest + "<add 3>b</add>", 4, 0, api.ErrLimit}, {longest + "<del 3>b</del>", 3, 0, api.ErrLimit}, {longest + "<del 3>b</del>", 2, 0, api.ErrLimit}, {longest + "<del 3>b</del>", 4, 0, api.OK}, {longest[1:] + "<add 1>b</add>", 1, 1, api.OK},
		// Only characters count.
		{longest + times(300, "<v/>") + "<add 1><gap 64/></add>", 1, 0, api.OK},
		// In the states, not in the transcript.
		{"<del 1>" + longer + "</del><add 3>" + longer + "</add>", 2, 0, api.OK}, {"<del 1>b<add 2>" + longer + "</add></del>", 1, 1, api.OK},
	} {
		l := parse(t, c.s)
		changes, e := hands.Changes(l, c.hand)
		if len(changes) != c.n || e != c.e {
			t.Errorf("P11.1: case %d: %d edits, %d", i, len(changes), e)
		}
		if _, e := hands.Touches(l, c.hand); e != api.OK {
			t.Errorf("P11.1: case %d: Touches: %d", i, e)
		}
		for _, hand := range []int{0, 9, -1} {
			if changes, e := hands.Changes(l, hand); len(changes) != 0 || e != api.ErrHand {
				t.Errorf("P11.1: case %d: Changes for %d: %v, %d", i, hand, changes, e)
			}
		}
		checkAll(t, c.s)
	}
}

// checkWrong checks that all functions return ErrArgument, and nothing else, for a list that is not valid, also for numbers that are no hands.
func checkWrong(t *testing.T, l []api.Node) {
	t.Helper()
	n, e := hands.Count(l)
	is, f := hands.Clean(l)
	k, g := hands.Hands(l)
	if n != 0 || is || len(k) != 0 || e != api.ErrArgument || f != api.ErrArgument || g != api.ErrArgument {
		t.Errorf("P11.1: Count, Clean and Hands(%.200s): %d, %d, %t, %d, %v, %d", fmt.Sprint(l), n, e, is, f, k, g)
	}
	for _, hand := range []int{0, 1, 2, 8, 9, -1, math.MinInt, math.MaxInt} {
		checkErrors(t, l, hand, api.ErrArgument, api.ErrArgument)
	}
}

// P11.1: lists that are not valid, with each error of layer 10's Check.
func TestWrong(t *testing.T) {
	a := api.Node{Kind: api.TextNode, Text: "a"}
	added := api.Node{Kind: api.AddNode, Number: 1, Parts: []api.Node{a}}
	line := api.Node{Kind: api.LineNode}
	for _, n := range []api.Node{
		{}, {Kind: -1}, {Kind: 12}, {Kind: api.LineNode, Number: 1}, {Kind: api.TextNode}, {Kind: api.TextNode, Text: "^"}, {Kind: api.TextNode, Text: "<add 1>"}, {Kind: api.PageNode}, {Kind: api.GapNode}, {Kind: api.GapNode, Number: 65}, {Kind: api.SectionNode, Text: "a b"},
		{Kind: api.AddNode, Parts: []api.Node{a}}, {Kind: api.AddNode, Number: 9, Parts: []api.Node{a}}, {Kind: api.DeleteNode, Number: -1, Parts: []api.Node{a}}, {Kind: api.DeleteNode, Number: 9, Parts: []api.Node{a}}, {Kind: api.AddNode, Number: 1}, {Kind: api.DeleteNode, Number: 1}, {Kind: api.UnclearNode}, {Kind: api.UnclearNode, Number: 1, Parts: []api.Node{a}}, {Kind: api.AddNode, Number: 1, Text: "a", Parts: []api.Node{a}}, {Kind: api.AbbrNode, Parts: []api.Node{a}}, {Kind: api.NameNode, Text: "'", Parts: []api.Node{a}},
		{Kind: api.UnclearNode, Parts: []api.Node{{Kind: api.SectionNode, Text: "I"}}}, {Kind: api.AddNode, Number: 1, Parts: []api.Node{{Kind: api.SectionNode, Text: "I"}}}, {Kind: api.DeleteNode, Number: 1, Parts: []api.Node{{Kind: api.SectionNode, Text: "I"}}}, {Kind: api.DeleteNode, Number: 1, Parts: []api.Node{a, a}}, {Kind: api.AddNode, Number: 2, Parts: []api.Node{{Kind: api.TextNode}}},
	} {
		checkWrong(t, []api.Node{n})
		checkWrong(t, []api.Node{added, n})
		checkWrong(t, []api.Node{n, added})
		for _, kind := range []int{api.AddNode, api.DeleteNode} {
			checkWrong(t, []api.Node{{Kind: kind, Number: 1, Parts: []api.Node{line, n}}})
		}
	}
	deep := []api.Node{a}
	for range 17 {
		deep = []api.Node{{Kind: api.AddNode, Number: 1, Parts: deep}}
	}
	long := api.Node{Kind: api.TextNode, Text: times(maxText, "a")}
	for _, l := range [][]api.Node{
		{a, a}, {added, a, a}, {a, {Kind: api.TextNode}, a}, deep, slices.Repeat([]api.Node{line}, 4097), slices.Repeat([]api.Node{added}, 2049), {long, line}, {line, {Kind: api.TextNode, Text: long.Text + "a"}}, {{Kind: api.DeleteNode, Number: 1, Parts: []api.Node{long}}},
	} {
		checkWrong(t, l)
	}
}

// P11.1 to P11.5: transcripts with as many nodes, or characters, or of as great a depth, as there can be.
func TestGreatest(t *testing.T) {
	for _, c := range []byHand{
		{times(2048, "<add 1>a</add>"), all("", times(2048, "a"))},
		{times(2048, "<del 1>a</del>"), all(times(2048, "a"), "")},
		{times(1365, "<del 2>a<lb/></del>") + "a", all(times(1365, "a<lb/>")+"a", times(1365, "a<lb/>")+"a", times(1365, "<lb/>")+"a")},
		{"<add 3>" + times(maxText-13, "a") + "</add>", all("", "", "", times(maxText-13, "a"))},
		{times(maxText/2, "a") + "<del 1>" + times(maxText/2-13, "b") + "</del>", all(times(maxText/2, "a")+times(maxText/2-13, "b"), times(maxText/2, "a"))},
		{within(16, "a<lb/>", func(_ int, s string) string { return add(8, s) }), all("<lb/>", "<lb/>", "<lb/>", "<lb/>", "<lb/>", "<lb/>", "<lb/>", "<lb/>", "a<lb/>")},
		{within(16, "a<lb/>", func(i int, s string) string { return add(1+i/2, s) }), all("<lb/>", "<lb/>", "<lb/>", "<lb/>", "<lb/>", "<lb/>", "<lb/>", "<lb/>", "a<lb/>")},
		{within(16, "a<lb/>", func(i int, s string) string { return del(1+i/2, s) }), all("a<lb/>", "<lb/>")},
		{within(8, "a", func(i int, s string) string { return add(8-i, "b"+s) }), all("", "b", "bb", "bbb", "bbbb", "bbbbb", "bbbbbb", "bbbbbbb", "bbbbbbbba")},
		{within(8, "a", func(i int, s string) string { return del(1+i, "b"+s) }), all("bbbbbbbba", "bbbbbbb", "bbbbbb", "bbbbb", "bbbb", "bbb", "bb", "b", "")},
		{add(1, within(15, "a", unclear)), all("", within(15, "a", unclear))}, {within(15, add(1, "a"), unclear), all("", within(15, "a", unclear))}, {within(15, add(1, "a<lb/>"), unclear), all(within(15, "<lb/>", unclear), within(15, "a<lb/>", unclear))},
	} {
		c.check(t, "State", hands.State)
		checkAll(t, c.s)
	}
}

// marked returns what all lists of n nodes are marked up as, where characters next to each other are one node, and hands are at most most.
func marked(n, most int) []string {
	tags := [][2]string{{"<unclear>", "</unclear>"}}
	for hand := 1; hand <= most; hand++ {
		tags = append(tags, [2]string{fmt.Sprintf("<add %d>", hand), "</add>"}, [2]string{fmt.Sprintf("<del %d>", hand), "</del>"})
	}
	lists := [][]string{{""}} // by their numbers of nodes
	nodes := [][]string{nil}
	for size := 1; size <= n; size++ {
		alone := all("a", "<lb/>")
		if size > 1 {
			alone = nil
			for _, s := range lists[size-1] {
				for _, tag := range tags {
					alone = append(alone, tag[0]+s+tag[1])
				}
			}
		}
		nodes = append(nodes, alone)
		var longer []string
		for first := 1; first <= size; first++ {
			for _, s := range nodes[first] {
				for _, rest := range lists[size-first] {
					longer = append(longer, s+rest)
				}
			}
		}
		lists = append(lists, longer)
	}
	return lists[n]
}

// P11.1 to P11.8 for all lists of a few nodes.
func TestEach(t *testing.T) {
	for n := range 5 {
		for _, s := range marked(n, 3) {
			checkAll(t, s)
		}
	}
	for _, s := range marked(5, 1) {
		checkAll(t, s)
	}
}

// randomMarkup returns what a random list with nodes in at most most others is marked up as.
func randomMarkup(r *rand.Rand, most int, isIn bool) string {
	leaves := all("a", "b", "ab", "deus ", "e^~", "qu'e.", "<lb/>", "<pb 12v/>", "<v/>", "<gap 3/>", "<sec I/>")
	if isIn {
		leaves = leaves[:len(leaves)-1]
	}
	tags := [][2]string{{"<unclear>", "</unclear>"}, {"<ab dn^s>", "</ab>"}, {"<ab 2>", "</ab>"}, {"<name Roma>", "</name>"}}
	s := ""
	for s == "" || r.Intn(2) == 0 {
		hand := 1 + r.Intn(1+r.Intn(maxHand))
		kind := r.Intn(5)
		if most == 0 {
			kind = 0
		}
		switch kind {
		case 0, 1:
			s += leaves[r.Intn(len(leaves))]
		case 2:
			tag := tags[r.Intn(len(tags))]
			s += tag[0] + randomMarkup(r, most-1, true) + tag[1]
		case 3:
			s += add(hand, randomMarkup(r, most-1, true))
		default:
			s += del(hand, randomMarkup(r, most-1, true))
		}
	}
	return s
}

// P11.1 to P11.8 for random lists.
func TestRandom(t *testing.T) {
	r := rand.New(rand.NewSource(1))
	greatest, touching := map[int]int{}, map[int]int{}
	for range 1000 {
		s := randomMarkup(r, r.Intn(6), false)
		checkAll(t, s)
		w := wantedFor(s)
		greatest[w.greatest]++
		touching[len(w.hands)]++
	}
	for hand := 0; hand <= maxHand; hand++ {
		if greatest[hand] < 20 {
			t.Errorf("%d lists with the greatest hand %d", greatest[hand], hand)
		}
	}
	for n := range 5 {
		if touching[n] < 20 {
			t.Errorf("%d lists that %d hands touch", touching[n], n)
		}
	}
}

// P11.2: the hands, one after the other, up to the last one.
func TestOneAfterTheOther(t *testing.T) {
	r := rand.New(rand.NewSource(2))
	for range 300 {
		s := randomMarkup(r, r.Intn(6), false)
		l, w := parse(t, s), wantedFor(s)
		for hand := 0; hand <= maxHand; hand++ {
			advanced, e := hands.Advance(l, hand)
			checkPrints(t, about("P11.2", "Advance", s, hand), advanced, e, w.advanced[hand])
			l = advanced
			for later := hand; later <= maxHand; later++ {
				state, e := hands.State(l, later)
				checkPrints(t, about("P11.2", "State", s, later), state, e, w.states[later])
			}
		}
	}
}

// R1: lists that share memory, and huge ones.
func TestHuge(t *testing.T) {
	line := api.Node{Kind: api.LineNode}
	deep := []api.Node{line}
	for range 1 << 16 {
		deep = []api.Node{{Kind: api.DeleteNode, Number: 1, Parts: deep}}
	}
	for _, l := range [][]api.Node{
		samples.Doubled(60), {{Kind: api.AddNode, Number: 1, Parts: samples.Doubled(60)}}, {{Kind: api.TextNode, Parts: samples.Doubled(60)}}, deep, slices.Repeat([]api.Node{line}, 1<<20), {{Kind: api.TextNode, Text: times(1<<22, "a")}},
	} {
		_, e := hands.Count(l)
		_, f := hands.Hands(l)
		_, g := hands.State(l, 1)
		_, h := hands.Changes(l, 9)
		if e != api.ErrArgument || f != e || g != e || h != e {
			t.Errorf("%d, %d, %d, %d", e, f, g, h)
		}
	}
	// A valid list whose nodes share memory.
	shared := samples.Doubled(8)
	l := []api.Node{{Kind: api.AddNode, Number: 1, Parts: shared}, {Kind: api.DeleteNode, Number: 2, Parts: shared}}
	want, e := transcript.Print(l)
	if e != api.OK {
		t.Fatal(e)
	}
	checkAll(t, want)
	if k, e := hands.Hands(l); !slices.Equal(k, []int{1, 2}) || e != api.OK {
		t.Errorf("%v, %d", k, e)
	}
}

// R4 and LANGUAGE 7: empty lists are none, and results are new memory, of which no two lists share some.
func TestResultsAreNew(t *testing.T) {
	empty := []api.Node{}
	l := []api.Node{{Kind: api.LineNode, Parts: empty}, {Kind: api.AddNode, Number: 2, Parts: []api.Node{{Kind: api.PageNode, Text: "1", Parts: empty}, {Kind: api.VerseNode, Parts: empty}}}}
	for hand, want := range all("<lb/><pb 1/>", "<lb/><pb 1/>", "<lb/><pb 1/><v/>") {
		state, e := hands.State(l, hand)
		checkPrints(t, about("R4", "State", want, hand), state, e, want)
	}
	if state, e := hands.State(empty, 0); len(state) != 0 || e != api.OK {
		t.Errorf("%v, %d", state, e)
	}
	part := api.Node{Kind: api.UnclearNode, Parts: []api.Node{{Kind: api.TextNode, Text: "a"}, {Kind: api.LineNode}}}
	lists := [][]api.Node{l, {part, part, {Kind: api.AddNode, Number: 1, Parts: []api.Node{part, part}}, {Kind: api.DeleteNode, Number: 2, Parts: []api.Node{part, part}}}}
	r := rand.New(rand.NewSource(3))
	for range 300 {
		lists = append(lists, parse(t, randomMarkup(r, 4, false)))
	}
	for _, l := range lists {
		for hand := 0; hand <= maxHand; hand++ {
			state, _ := hands.State(l, hand)
			advanced, _ := hands.Advance(l, hand)
			samples.CheckNew(t, state, slices.Concat(l, advanced))
			samples.CheckNew(t, advanced, l)
		}
	}
}
