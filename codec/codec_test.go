package codec_test

import (
	"fmt"
	"math"
	"math/big"
	"math/rand"
	"reflect"
	"regexp"
	"slices"
	"strings"
	"testing"

	"apograph/api"
	"apograph/codec"
	"apograph/samples"
)

// The functions down to wantedSame restate the chapter's definitions in another way than the package does: the values in a value are listed, strings are read with regular expressions and numbers of any size, and values are compared by a text of all their fields.

const (
	maxFile  = 1 << 20
	maxList  = 4096
	maxTable = 65536
	maxDepth = 64
)

// inside returns the values in v, a list before its items.
func inside(v api.Value) []api.Value { return appendInside(nil, v) }

func appendInside(all []api.Value, v api.Value) []api.Value {
	all = append(all, v)
	if v.Kind == 3 {
		for _, item := range v.Items {
			all = appendInside(all, item)
		}
	}
	return all
}

func depth(v api.Value) int {
	most := 0
	if v.Kind == 3 {
		for _, item := range v.Items {
			most = max(most, depth(item))
		}
	}
	return most + 1
}

func wantedCheck(v api.Value) api.Errno {
	all := inside(v)
	if depth(v) > maxDepth || len(all) > maxTable {
		return api.ErrLimit
	}
	for _, w := range all {
		// What is left of a value of a kind without the field of this kind is nothing.
		rest := w
		switch w.Kind {
		case 1:
			rest.Number = 0
		case 2:
			rest.Text = ""
		case 3:
			rest.Items = nil
		default:
			return api.ErrKind
		}
		switch {
		case rest.Number != 0 || rest.Text != "" || len(rest.Items) != 0:
			return api.ErrKind
		case len(w.Text) > maxFile || len(w.Items) > maxList:
			return api.ErrLimit
		}
	}
	return api.OK
}

func wantedSize(v api.Value) (int, api.Errno) {
	if e := wantedCheck(v); e != api.OK {
		return 0, e
	}
	return len(inside(v)), api.OK
}

// encoding returns the encoding of a valid value, of whatever length.
func encoding(v api.Value) string {
	switch v.Kind {
	case 1:
		return fmt.Sprintf("i%d;", v.Number)
	case 2:
		return fmt.Sprintf("s%d:%s", len(v.Text), v.Text)
	}
	return "l" + encodings(v.Items) + "e"
}

// encodings returns the encodings of values, one after the other.
func encodings(l []api.Value) string {
	var s strings.Builder
	for _, v := range l {
		s.WriteString(encoding(v))
	}
	return s.String()
}

func wantedEncode(v api.Value) (string, api.Errno) {
	if e := wantedCheck(v); e != api.OK {
		return "", e
	}
	s := encoding(v)
	if len(s) > maxFile {
		return "", api.ErrLimit
	}
	return s, api.OK
}

var (
	intForm  = regexp.MustCompile(`^i(0|-?[1-9][0-9]*);`)
	textForm = regexp.MustCompile(`^s(0|[1-9][0-9]*):`)
)

// numbered returns the number that form finds at the beginning of s, and what follows, if it is at most most.
func numbered(form *regexp.Regexp, s string, most int) (int, string, bool) {
	m := form.FindStringSubmatch(s)
	if m == nil {
		return 0, "", false
	}
	n, _ := new(big.Int).SetString(m[1], 10)
	return int(n.Int64()), s[len(m[0]):], n.IsInt64() && n.Int64() <= int64(most)
}

// parse returns the value with whose encoding s begins, and what follows.
func parse(s string) (api.Value, string, bool) {
	if n, rest, is := numbered(intForm, s, math.MaxInt); is {
		return number(n), rest, true
	}
	if n, rest, is := numbered(textForm, s, len(s)); is && n <= len(rest) {
		return text(rest[:n]), rest[n:], true
	}
	if !strings.HasPrefix(s, "l") {
		return api.Value{}, "", false
	}
	l, rest := list(), s[1:]
	for !strings.HasPrefix(rest, "e") {
		item, after, is := parse(rest)
		if !is {
			return api.Value{}, "", false
		}
		l.Items, rest = append(l.Items, item), after
	}
	return l, rest[1:], true
}

func wantedDecode(s string) (api.Value, api.Errno) {
	if len(s) > maxFile {
		return api.Value{}, api.ErrLimit
	}
	v, rest, is := parse(s)
	switch {
	case !is || rest != "":
		return api.Value{}, api.ErrSyntax
	case wantedCheck(v) != api.OK:
		return api.Value{}, api.ErrLimit
	}
	return v, api.OK
}

// fields returns a text of all fields of v.
func fields(v api.Value) string {
	s := fmt.Sprintf("(%d %d %q", v.Kind, v.Number, v.Text)
	for _, item := range v.Items {
		s += " " + fields(item)
	}
	return s + ")"
}

func wantedSame(a, b api.Value) bool { return fields(a) == fields(b) }

func number(n int) api.Value { return api.Value{Kind: 1, Number: n} }

func text(s string) api.Value { return api.Value{Kind: 2, Text: s} }

func list(l ...api.Value) api.Value { return api.Value{Kind: 3, Items: l} }

// times returns a list that has v as each of its n items.
func times(n int, v api.Value) api.Value { return list(slices.Repeat([]api.Value{v}, n)...) }

// long returns a string of n bytes.
func long(n int) api.Value { return text(strings.Repeat("x", n)) }

// within returns v within n lists.
func within(n int, v api.Value) api.Value {
	for range n {
		v = list(v)
	}
	return v
}

// sized returns a value with n values in it, in lists that are not too long.
func sized(n int, v api.Value) api.Value {
	all := list()
	for rest := n - 1; rest > 0; {
		part := min(rest, maxList)
		all.Items = append(all.Items, times(part-1, v))
		rest -= part
	}
	return all
}

// doubled returns a value with 2^n - 1 values in it, all of which share their memory.
func doubled(n int) api.Value {
	v := list()
	for range n - 1 {
		v = list(v, v)
	}
	return v
}

// allBytes returns a string with each byte.
func allBytes() string {
	b := make([]byte, 256)
	for i := range b {
		b[i] = byte(i)
	}
	return string(b)
}

// valid returns valid values, no two of which are the same.
func valid() []api.Value {
	var all []api.Value
	for _, n := range []int{0, 1, -1, 7, -7, 9, 10, 11, -10, -12, 100, 71, math.MaxInt, math.MinInt, math.MaxInt32 + 1, math.MinInt32 - 1} {
		all = append(all, number(n))
	}
	for _, s := range []string{"", "a", "b", "ab", "abc", "i", "s", "l", "e", ":", ";", "-", "0", "1", "7", "i0;", "i7", "s0:", "s3:abc", "1:a", "le", "lee", "e\x00", "\x00", "\x00\x00", "\xff\xfe", "é", "x\n", strings.Repeat("e", 9), strings.Repeat("l", 10), strings.Repeat(":", 99), strings.Repeat(";", 100), strings.Repeat("0", 1000), allBytes()} {
		all = append(all, text(s))
	}
	one, two := number(1), number(2)
	return append(all,
		list(), list(one), list(two), list(one, one), list(one, two), list(two, one), list(one, two, one), list(number(12)), list(number(-1)), list(number(1), number(-2)),
		list(text("")), list(text("a")), list(text("1")), list(text("a"), text("b")), list(text("ab")), list(text("b"), text("a")), list(text(""), text("")), list(text("1"), one), list(one, text("1")), list(text("i1;")), list(text("le")),
		list(list()), list(list(), list()), list(list(list())), list(list(), list(list())), list(list(list()), list()), list(list(one), two), list(list(one, two)), list(one, list(two)), list(list(one), list(two)), list(list(list(one), two)), list(list(list(one)), two), list(list(), one), list(one, list()), list(list(list(), list())),
		within(5, number(-5)), within(63, list()), within(63, one), within(63, text("e")), times(4096, one), times(4095, list()), list(number(7), text("abc"), list()), list(within(62, list()), within(62, one), text(allBytes())),
	)
}

// wrong returns small values that are not valid because of their kinds and fields.
func wrong() []api.Value {
	items := []api.Value{number(1)}
	all := []api.Value{
		{}, {Kind: -1}, {Kind: 4}, {Kind: 5}, {Kind: math.MinInt}, {Kind: math.MaxInt}, {Kind: 1 << 32}, {Kind: 1<<32 + 1}, {Kind: -3},
		{Number: 1}, {Text: "x"}, {Items: items}, {Kind: 4, Number: 1}, {Kind: 4, Text: "x"}, {Kind: 4, Items: items}, {Kind: -1, Items: items},
		{Kind: 1, Text: "x"}, {Kind: 1, Items: items}, {Kind: 1, Number: 5, Text: "x"}, {Kind: 1, Number: 5, Items: items}, {Kind: 1, Number: 5, Text: "x", Items: items}, {Kind: 1, Text: "\x00"}, {Kind: 1, Items: []api.Value{{}}},
		{Kind: 2, Number: 1}, {Kind: 2, Number: -1}, {Kind: 2, Items: items}, {Kind: 2, Text: "x", Number: math.MinInt}, {Kind: 2, Text: "x", Items: items}, {Kind: 2, Text: "x", Number: 1, Items: items}, {Kind: 2, Items: []api.Value{{}}},
		{Kind: 3, Number: 1}, {Kind: 3, Number: -1}, {Kind: 3, Text: "x"}, {Kind: 3, Number: 1, Items: items}, {Kind: 3, Text: "x", Items: items}, {Kind: 3, Number: 1, Text: "x", Items: items},
	}
	for _, v := range all {
		all = append(all, list(v), list(number(1), v), list(v, number(1)), list(list(text("x")), list(number(1), v), list()))
	}
	return all
}

// randomValue returns a valid value, of at most a few items in each of at most most lists within one another.
func randomValue(r *rand.Rand, most int) api.Value {
	switch k := r.Intn(7); {
	case k < 2:
		return number([]int{0, 1, -1, r.Intn(2000) - 1000, r.Int() - r.Int(), math.MinInt, math.MaxInt}[r.Intn(7)])
	case k < 4 || most == 0:
		s := make([]byte, r.Intn(13))
		for i := range s {
			s[i] = "lesi01:;-\x00\xffa"[r.Intn(12)]
		}
		return text(string(s))
	}
	v := list()
	for range r.Intn(5) {
		v.Items = append(v.Items, randomValue(r, most-1))
	}
	return v
}

// spoil returns v with one of the values in it changed so that it is, in most cases, not valid.
func spoil(r *rand.Rand, v api.Value) api.Value {
	if v.Kind == 3 && len(v.Items) > 0 && r.Intn(4) > 0 {
		i := r.Intn(len(v.Items))
		l := slices.Clone(v.Items)
		l[i] = spoil(r, l[i])
		return api.Value{Kind: v.Kind, Number: v.Number, Text: v.Text, Items: l}
	}
	switch r.Intn(5) {
	case 0:
		v.Kind = r.Intn(7) - 1
	case 1:
		v.Number = r.Intn(3) - 1
	case 2:
		v.Text = strings.Repeat("y", r.Intn(2))
	case 3:
		v.Items = make([]api.Value, r.Intn(3))
	default:
		return text(strings.Repeat("x", maxFile+r.Intn(2)))
	}
	return v
}

// change returns s with one byte deleted, inserted or replaced.
func change(r *rand.Rand, s string) string {
	at := r.Intn(len(s))
	with := "lesi0123456789-+:; x\x00"[r.Intn(21):][:1]
	switch r.Intn(3) {
	case 0:
		return s[:at] + s[at+1:]
	case 1:
		return s[:at] + with + s[at:]
	}
	return s[:at] + with + s[at+1:]
}

// copied returns a copy of v that shares no memory with it.
func copied(v api.Value) api.Value {
	v.Items = slices.Clone(v.Items)
	for i, item := range v.Items {
		v.Items[i] = copied(item)
	}
	return v
}

// unchanged returns a function that fails the test if the values are not the same any more.
func unchanged(t *testing.T, l ...api.Value) func() {
	given := copied(list(l...)).Items
	return func() {
		t.Helper()
		if !reflect.DeepEqual(l, given) {
			t.Errorf("%v was changed to %v", given, l)
		}
	}
}

// short returns a text of v that is not too long to be printed.
func short(v api.Value) string { return fmt.Sprintf("%.200q", fields(v)) }

// checkValue checks what Check, Size and Encode return for v.
func checkValue(t *testing.T, v api.Value) {
	t.Helper()
	if e := codec.Check(v); e != wantedCheck(v) {
		t.Errorf("P6.1: Check(%s): %d, not %d", short(v), e, wantedCheck(v))
	}
	n, e := codec.Size(v)
	if want, f := wantedSize(v); n != want || e != f {
		t.Errorf("P6.1: Size(%s): %d, %d, not %d, %d", short(v), n, e, want, f)
	}
	s, e := codec.Encode(v)
	if want, f := wantedEncode(v); s != want || e != f {
		t.Errorf("P6.1: Encode(%s): %.100q, %d, not %.100q, %d", short(v), s, e, want, f)
	}
}

// checkString checks what Decode returns for s, and that it is encoded as s. P6.1 and P6.3.
func checkString(t *testing.T, s string) api.Errno {
	t.Helper()
	v, e := codec.Decode(s)
	if want, f := wantedDecode(s); !wantedSame(v, want) || e != f {
		t.Fatalf("P6.1: Decode(%.200q): %s, %d, not %s, %d", s, short(v), e, short(want), f)
	}
	if e != api.OK {
		return e
	}
	if back, f := codec.Encode(v); back != s || f != api.OK {
		t.Fatalf("P6.3: Encode(Decode(%.200q)): %.200q, %d", s, back, f)
	}
	return e
}

// encode returns the encoding of a value that is valid, and fails the test if it has none.
func encode(t *testing.T, v api.Value) string {
	t.Helper()
	s, e := codec.Encode(v)
	if e != api.OK || s == "" {
		t.Fatalf("Encode(%s): %q, %d", short(v), s, e)
	}
	return s
}

// P6.1 for values by hand: Check, Size and Encode.
func TestEncodeByHand(t *testing.T) {
	for i, c := range []struct {
		v    api.Value
		s    string
		size int
	}{
		// The example of the chapter.
		{list(number(7), text("abc"), list()), "li7;s3:abclee", 4}, {number(-12), "i-12;", 1}, {text("abc"), "s3:abc", 1},
		{number(0), "i0;", 1}, {number(1), "i1;", 1}, {number(-1), "i-1;", 1}, {number(10), "i10;", 1}, {number(math.MaxInt64), "i9223372036854775807;", 1}, {number(math.MinInt64), "i-9223372036854775808;", 1},
		{text(""), "s0:", 1}, {text("s1:a"), "s4:s1:a", 1}, {text("\x00\xff:"), "s3:\x00\xff:", 1}, {text("é"), "s2:é", 1}, {text("0123456789"), "s10:0123456789", 1}, {text("i1;"), "s3:i1;", 1}, {text("le"), "s2:le", 1},
		{list(), "le", 1}, {api.Value{Kind: 3, Items: []api.Value{}}, "le", 1}, {list(list()), "llee", 2}, {list(list(), list()), "lleleee"[:6], 3}, {list(list(list(number(1)), number(2))), "llli1;ei2;ee", 5}, {list(number(1), list(), text("")), "li1;les0:e", 4},
		{api.Value{Kind: 1, Number: 3, Items: []api.Value{}}, "i3;", 1}, {api.Value{Kind: 2, Text: "x", Items: []api.Value{}}, "s1:x", 1},
		{within(63, list()), strings.Repeat("l", 64) + strings.Repeat("e", 64), 64}, {within(63, number(5)), strings.Repeat("l", 63) + "i5;" + strings.Repeat("e", 63), 64}, {times(4096, number(0)), "l" + strings.Repeat("i0;", 4096) + "e", 4097},
	} {
		s, e := codec.Encode(c.v)
		n, f := codec.Size(c.v)
		if s != c.s || n != c.size || e != api.OK || f != api.OK || codec.Check(c.v) != api.OK {
			t.Errorf("case %d: %.100q, %d, errors %d, %d, %d", i, s, n, e, f, codec.Check(c.v))
		}
		checkValue(t, c.v)
		if v, e := codec.Decode(c.s); !wantedSame(v, c.v) || e != api.OK {
			t.Errorf("P6.2: case %d: %s, %d", i, short(v), e)
		}
	}
}

// P6.1 for values that are not valid because of their kinds and fields.
func TestWrongKinds(t *testing.T) {
	for _, v := range wrong() {
		check := unchanged(t, v)
		checkValue(t, v)
		if e := codec.Check(v); e != api.ErrKind {
			t.Errorf("Check(%s): %d", short(v), e)
		}
		check()
	}
}

// P6.1 for values at the limits and beyond them, and for values with several errors, of which one comes first.
func TestLimits(t *testing.T) {
	none, much := api.Value{}, long(maxFile+1)
	one := number(1)
	tooMany, tooDeep := times(maxList+1, one), within(64, one)
	withItems := func(v api.Value, l api.Value) api.Value {
		v.Items = l.Items
		return v
	}
	for i, c := range []struct {
		v    api.Value
		want api.Errno
	}{
		{long(maxFile), api.OK}, {much, api.ErrLimit}, {list(long(maxFile)), api.OK}, {list(much), api.ErrLimit},
		{times(maxList, one), api.OK}, {tooMany, api.ErrLimit}, {list(times(maxList, one)), api.OK}, {list(tooMany), api.ErrLimit},
		{within(63, one), api.OK}, {within(63, list()), api.OK}, {within(64, one), api.ErrLimit}, {within(64, list()), api.ErrLimit}, {within(1000, one), api.ErrLimit}, {within(1<<16, one), api.ErrLimit}, {list(one, one, within(62, list())), api.OK}, {list(one, one, within(63, list()), one), api.ErrLimit}, {list(one, list(within(61, one), one)), api.OK}, {list(one, list(within(62, one), one)), api.ErrLimit},
		{sized(maxTable, one), api.OK}, {sized(maxTable+1, one), api.ErrLimit}, {sized(maxTable, list()), api.OK}, {sized(maxTable+1, list()), api.ErrLimit}, {sized(maxTable+1, list(one)), api.ErrLimit}, {list(sized(maxTable-1, one)), api.OK}, {list(sized(maxTable, one)), api.ErrLimit}, {sized(100000, one), api.ErrLimit}, {times(maxTable, one), api.ErrLimit},
		// The depth comes before all other errors.
		{list(none, tooDeep), api.ErrLimit}, {list(tooDeep, none), api.ErrLimit}, {withItems(api.Value{Kind: 3, Number: 1}, tooDeep), api.ErrLimit}, {withItems(api.Value{Kind: 3, Text: "x"}, tooDeep), api.ErrLimit}, {within(64, none), api.ErrLimit}, {within(63, none), api.ErrKind}, {list(none, none, within(63, none)), api.ErrLimit}, {list(none, none, within(62, none)), api.ErrKind},
		// The number of values comes before all other errors.
		{list(none, sized(maxTable, one)), api.ErrLimit}, {list(none, sized(maxTable-2, one)), api.ErrKind}, {list(none, sized(maxTable-1, one)), api.ErrLimit}, {list(sized(maxTable-2, one), none), api.ErrKind}, {sized(maxTable, none), api.ErrKind}, {sized(maxTable+1, none), api.ErrLimit}, {withItems(api.Value{Kind: 3, Number: 1}, sized(maxTable, one)), api.ErrKind}, {withItems(api.Value{Kind: 3, Number: 1}, sized(maxTable+1, one)), api.ErrLimit}, {withItems(api.Value{Kind: 3, Text: "x"}, times(maxTable-1, one)), api.ErrKind}, {withItems(api.Value{Kind: 3, Text: "x"}, times(maxTable, one)), api.ErrLimit},
		// What stands in the items of a value that is no list is not in it.
		{withItems(one, tooDeep), api.ErrKind}, {withItems(text("x"), tooDeep), api.ErrKind}, {withItems(none, tooDeep), api.ErrKind}, {withItems(api.Value{Kind: 4}, tooDeep), api.ErrKind}, {withItems(one, times(maxTable, one)), api.ErrKind}, {withItems(text("x"), times(maxTable, one)), api.ErrKind}, {withItems(none, times(maxTable, one)), api.ErrKind}, {list(within(60, one), withItems(one, within(63, one))), api.ErrKind}, {withItems(one, tooMany), api.ErrKind}, {withItems(text(""), tooMany), api.ErrKind},
		// A value that has both errors is of no kind.
		{withItems(api.Value{Kind: 3, Number: 1}, tooMany), api.ErrKind}, {withItems(api.Value{Kind: 3, Text: "x"}, tooMany), api.ErrKind}, {withItems(none, tooMany), api.ErrKind}, {withItems(much, list(one)), api.ErrKind}, {api.Value{Kind: 2, Number: 1, Text: much.Text}, api.ErrKind}, {api.Value{Kind: 1, Text: much.Text}, api.ErrKind}, {api.Value{Kind: 3, Text: much.Text}, api.ErrKind}, {api.Value{Text: much.Text}, api.ErrKind}, {withItems(api.Value{Kind: 3, Text: much.Text}, tooMany), api.ErrKind},
		// A list comes before its items.
		{times(maxList+1, none), api.ErrLimit}, {times(maxList, none), api.ErrKind}, {withItems(api.Value{Kind: 3, Number: 1}, list(much)), api.ErrKind}, {withItems(api.Value{Kind: 3, Text: "x"}, list(tooMany)), api.ErrKind}, {list(times(maxList+1, none)), api.ErrLimit}, {list(withItems(api.Value{Kind: 3, Number: 1}, list(much))), api.ErrKind},
		// The first value that has an error has it.
		{list(none, much), api.ErrKind}, {list(much, none), api.ErrLimit}, {list(none, tooMany), api.ErrKind}, {list(tooMany, none), api.ErrLimit}, {list(one, list(list(much)), none), api.ErrLimit}, {list(one, list(list(none)), much), api.ErrKind}, {list(list(one, much), list(none, one)), api.ErrLimit}, {list(list(one, none), list(much, one)), api.ErrKind}, {list(tooMany, api.Value{Kind: 1, Text: "x"}), api.ErrLimit}, {list(list(), one, text(""), none, much, tooMany), api.ErrKind}, {list(list(), one, text(""), tooMany, much, none), api.ErrLimit},
	} {
		check := unchanged(t, c.v)
		e := codec.Check(c.v)
		n, f := codec.Size(c.v)
		if e != c.want || f != c.want || (c.want == api.OK) != (n > 0) {
			t.Errorf("case %d: Check %d, Size %d, %d, not %d", i, e, n, f, c.want)
		}
		checkValue(t, c.v)
		check()
	}
}

// P6.1 for values that share so much memory that nobody could go through all of them.
func TestSharedMemory(t *testing.T) {
	big := times(maxList, long(maxFile))
	for i, v := range []api.Value{doubled(17), doubled(64), doubled(65), doubled(1000), list(api.Value{}, doubled(64)), times(maxList, times(maxList, times(maxList, number(1))))} {
		s, e := codec.Encode(v)
		n, f := codec.Size(v)
		if codec.Check(v) != api.ErrLimit || s != "" || e != api.ErrLimit || n != 0 || f != api.ErrLimit {
			t.Errorf("case %d: %d, %.100q, %d, %d, %d", i, codec.Check(v), s, e, n, f)
		}
	}
	if n, e := codec.Size(doubled(16)); n != 65535 || e != api.OK {
		t.Errorf("Size: %d, %d", n, e)
	}
	for i, v := range []api.Value{big, times(15, big)} {
		if s, e := codec.Encode(v); codec.Check(v) != api.OK || s != "" || e != api.ErrLimit {
			t.Errorf("text %d: %d, %d bytes, %d", i, codec.Check(v), len(s), e)
		}
	}
}

// P6.1 and P6.2 for encodings of MaxFile bytes and one more: a string makes each value as long as that.
func TestLongEncodings(t *testing.T) {
	for i, around := range []func(v api.Value) api.Value{
		func(v api.Value) api.Value { return v },
		func(v api.Value) api.Value { return list(v) },
		func(v api.Value) api.Value { return within(63, v) },
		func(v api.Value) api.Value { return list(list(v), list(), number(-5)) },
		func(v api.Value) api.Value { return list(v, within(62, list())) },
		func(v api.Value) api.Value { return list(times(2, list(number(1))), list(list(text("abc"), v))) },
		func(v api.Value) api.Value { return list(v, times(maxList, number(math.MinInt))) },
	} {
		// The length of the string has seven digits, as that of a string of a million bytes, or six.
		whole := 1000000 - len(encoding(around(long(1000000)))) + maxFile
		if whole < 1000000 {
			whole++
		}
		for more, want := range []api.Errno{api.OK, api.ErrLimit, api.ErrLimit} {
			v := around(long(whole + more))
			s := encoding(v)
			if len(s) != maxFile+more {
				t.Fatalf("case %d: the encoding has %d bytes", i, len(s))
			}
			if got, e := codec.Encode(v); e != want || (want == api.OK) != (got == s) || want != api.OK && got != "" {
				t.Errorf("case %d, %d more: Encode: %d bytes, %d", i, more, len(got), e)
			}
			if codec.Check(v) != api.OK {
				t.Errorf("case %d, %d more: Check: %d", i, more, codec.Check(v))
			}
			got, e := codec.Decode(s)
			if want != api.OK {
				v = api.Value{}
			}
			if e != want || !wantedSame(got, v) {
				t.Errorf("case %d, %d more: Decode: %d", i, more, e)
			}
		}
	}
	// Numbers alone are too long as well, and the error of Check comes before the length.
	for i, c := range []struct {
		v    api.Value
		want api.Errno
	}{
		{sized(maxTable, number(math.MinInt)), api.ErrLimit}, {list(long(maxFile), long(maxFile), api.Value{}), api.ErrKind}, {list(long(maxFile), within(62, api.Value{Kind: 1, Text: "x"})), api.ErrKind}, {long(maxFile), api.ErrLimit}, {list(sized(maxTable-2, number(math.MinInt)), api.Value{}), api.ErrKind},
	} {
		if s, e := codec.Encode(c.v); s != "" || e != c.want {
			t.Errorf("value %d: %d bytes, %d", i, len(s), e)
		}
	}
}

// P6.1 and P6.3 for strings by hand.
func TestDecodeByHand(t *testing.T) {
	repeat := strings.Repeat
	for i, c := range []struct {
		s    string
		want api.Errno
	}{
		{"i0;", api.OK}, {"i-1;", api.OK}, {"i10;", api.OK}, {"s0:", api.OK}, {"s1::", api.OK}, {"s2:le", api.OK}, {"s10:0123456789", api.OK}, {"le", api.OK}, {"llelleee", api.OK}, {"i9223372036854775807;", api.OK}, {"i-9223372036854775808;", api.OK}, {"li7;s3:abclee", api.OK},
		{"", api.ErrSyntax}, {" ", api.ErrSyntax}, {"\x00", api.ErrSyntax}, {" i0;", api.ErrSyntax}, {"i0; ", api.ErrSyntax}, {"i0;\n", api.ErrSyntax},
		// Numbers that have another form.
		{"i07;", api.ErrSyntax}, {"i00;", api.ErrSyntax}, {"i01;", api.ErrSyntax}, {"i-0;", api.ErrSyntax}, {"i-00;", api.ErrSyntax}, {"i-07;", api.ErrSyntax}, {"i-;", api.ErrSyntax}, {"i--1;", api.ErrSyntax}, {"i+1;", api.ErrSyntax}, {"i+0;", api.ErrSyntax}, {"i+;", api.ErrSyntax}, {"i+-1;", api.ErrSyntax}, {"i-+1;", api.ErrSyntax}, {"i;", api.ErrSyntax}, {"i 1;", api.ErrSyntax}, {"i1 ;", api.ErrSyntax}, {"i1.0;", api.ErrSyntax}, {"i1e3;", api.ErrSyntax}, {"i0x1;", api.ErrSyntax}, {"ia;", api.ErrSyntax}, {"i1_0;", api.ErrSyntax}, {"i1,0;", api.ErrSyntax}, {"i1-;", api.ErrSyntax}, {"i1-2;", api.ErrSyntax}, {"i\xd9\xa1;", api.ErrSyntax},
		{"i", api.ErrSyntax}, {"i1", api.ErrSyntax}, {"i-", api.ErrSyntax}, {"i-1", api.ErrSyntax}, {"i1:", api.ErrSyntax}, {"li1e", api.ErrSyntax}, {"li1e;", api.ErrSyntax}, {"li1s0:e", api.ErrSyntax},
		// Numbers that are no ints.
		{"i9223372036854775808;", api.ErrSyntax}, {"i-9223372036854775809;", api.ErrSyntax}, {"i10000000000000000000;", api.ErrSyntax}, {"i18446744073709551616;", api.ErrSyntax}, {"i18446744073709551617;", api.ErrSyntax}, {"i-18446744073709551615;", api.ErrSyntax}, {"i1" + repeat("0", 400) + ";", api.ErrSyntax}, {"li9223372036854775808;e", api.ErrSyntax}, {"i" + repeat("9", maxFile-2) + ";", api.ErrSyntax}, {"i" + repeat("0", maxFile-2) + ";", api.ErrSyntax}, {"i-" + repeat("9", maxFile-2), api.ErrSyntax},
		// Lengths that have another form, or are too great.
		{"s", api.ErrSyntax}, {"s:", api.ErrSyntax}, {"s:a", api.ErrSyntax}, {"s1", api.ErrSyntax}, {"s1a", api.ErrSyntax}, {"s1;a", api.ErrSyntax}, {"s0", api.ErrSyntax}, {"s0;", api.ErrSyntax}, {"s00:", api.ErrSyntax}, {"s01:a", api.ErrSyntax}, {"s-0:", api.ErrSyntax}, {"s-1:", api.ErrSyntax}, {"s-1:a", api.ErrSyntax}, {"s+1:a", api.ErrSyntax}, {"s+0:", api.ErrSyntax}, {"s-:", api.ErrSyntax}, {"s 1:a", api.ErrSyntax}, {"s1 :a", api.ErrSyntax}, {"sa:a", api.ErrSyntax}, {"s0x1:a", api.ErrSyntax},
		{"s1:", api.ErrSyntax}, {"s2:a", api.ErrSyntax}, {"s4:abc", api.ErrSyntax}, {"ls3:abe", api.ErrSyntax}, {"ls1:e", api.ErrSyntax}, {"s1048576:", api.ErrSyntax}, {"s9223372036854775807:a", api.ErrSyntax}, {"s9223372036854775808:a", api.ErrSyntax}, {"s18446744073709551616:", api.ErrSyntax}, {"s18446744073709551617:a", api.ErrSyntax}, {"s-9223372036854775808:a", api.ErrSyntax}, {"s-18446744073709551615:a", api.ErrSyntax}, {"s1" + repeat("0", 400) + ":a", api.ErrSyntax}, {"s" + repeat("9", maxFile-2) + ":", api.ErrSyntax}, {"s" + repeat("0", maxFile-2) + ":", api.ErrSyntax}, {"s4294967297:a", api.ErrSyntax},
		// Letters of no kind.
		{"x", api.ErrSyntax}, {"x1;", api.ErrSyntax}, {"I1;", api.ErrSyntax}, {"S1:a", api.ErrSyntax}, {"Le", api.ErrSyntax}, {"lE", api.ErrSyntax}, {"d1;e", api.ErrSyntax}, {"0", api.ErrSyntax}, {"1;", api.ErrSyntax}, {"1:a", api.ErrSyntax}, {";", api.ErrSyntax}, {":", api.ErrSyntax}, {"-1;", api.ErrSyntax}, {"lxe", api.ErrSyntax}, {"l0e", api.ErrSyntax}, {"l e", api.ErrSyntax}, {"li1;xe", api.ErrSyntax}, {"\xff", api.ErrSyntax}, {"l\xffe", api.ErrSyntax},
		// Lists that are not ended, ends without a list, and what follows a whole value.
		{"l", api.ErrSyntax}, {"ll", api.ErrSyntax}, {"lle", api.ErrSyntax}, {"li1;", api.ErrSyntax}, {"ls1:a", api.ErrSyntax}, {"llei1;", api.ErrSyntax}, {repeat("l", 65), api.ErrSyntax}, {repeat("l", maxFile), api.ErrSyntax},
		{"e", api.ErrSyntax}, {"ee", api.ErrSyntax}, {"ei1;", api.ErrSyntax}, {"el", api.ErrSyntax}, {"ele", api.ErrSyntax}, {"lee", api.ErrSyntax}, {"i1;e", api.ErrSyntax}, {"s0:e", api.ErrSyntax}, {repeat("e", maxFile), api.ErrSyntax},
		{"i1;i2;", api.ErrSyntax}, {"s1:ab", api.ErrSyntax}, {"s0:a", api.ErrSyntax}, {"lele", api.ErrSyntax}, {"lei1;", api.ErrSyntax}, {"i1;x", api.ErrSyntax}, {"i1;;", api.ErrSyntax}, {"lel", api.ErrSyntax}, {"s1:as1:b", api.ErrSyntax}, {"i1;l", api.ErrSyntax},
		// Values that are encoded, but not valid.
		{repeat("l", 64) + repeat("e", 64), api.OK}, {repeat("l", 65) + repeat("e", 65), api.ErrLimit}, {repeat("l", 63) + "i1;" + repeat("e", 63), api.OK}, {repeat("l", 64) + "i1;" + repeat("e", 64), api.ErrLimit}, {repeat("l", 64) + "s0:" + repeat("e", 64), api.ErrLimit}, {"l" + repeat("l", 63) + repeat("e", 63) + repeat("l", 63) + repeat("e", 63) + "e", api.OK}, {"l" + repeat("l", 63) + repeat("e", 63) + repeat("l", 64) + repeat("e", 64) + "e", api.ErrLimit}, {repeat("l", 1000) + repeat("e", 1000), api.ErrLimit}, {repeat("l", maxFile/2) + repeat("e", maxFile/2), api.ErrLimit},
		{"l" + repeat("le", 4096) + "e", api.OK}, {"l" + repeat("le", 4097) + "e", api.ErrLimit}, {"l" + repeat("i0;", 4097) + "e", api.ErrLimit}, {"ll" + repeat("s0:", 4096) + "ee", api.OK}, {"ll" + repeat("s0:", 4097) + "ee", api.ErrLimit}, {"l" + repeat("le", maxFile/2-1) + "e", api.ErrLimit},
		{encoding(sized(maxTable, list())), api.OK}, {encoding(sized(maxTable+1, list())), api.ErrLimit}, {encoding(sized(maxTable, number(-1))), api.OK}, {encoding(sized(maxTable+1, number(-1))), api.ErrLimit},
		// Strings that are no encoding, although what they begin with is not valid.
		{repeat("l", 65) + repeat("e", 64), api.ErrSyntax}, {repeat("l", 65) + repeat("e", 66), api.ErrSyntax}, {repeat("l", 65) + repeat("e", 65) + "i1;", api.ErrSyntax}, {repeat("l", 65) + "i01;" + repeat("e", 65), api.ErrSyntax}, {repeat("l", 65) + "x" + repeat("e", 65), api.ErrSyntax}, {"l" + repeat("le", 4097), api.ErrSyntax}, {"l" + repeat("le", 4097) + "x", api.ErrSyntax}, {"l" + repeat("le", 4097) + "ee", api.ErrSyntax}, {"l" + repeat("i0;", 4097) + "s1:e", api.ErrSyntax}, {encoding(sized(maxTable+1, list())) + "e", api.ErrSyntax}, {"l" + encoding(sized(maxTable+1, list())), api.ErrSyntax}, {"l" + encoding(sized(maxTable+1, list())) + "i-0;e", api.ErrSyntax}, {repeat("l", maxFile/2) + repeat("e", maxFile/2-1) + "x", api.ErrSyntax},
		// The length of the string comes first.
		{repeat("x", maxFile), api.ErrSyntax}, {repeat("x", maxFile+1), api.ErrLimit}, {repeat("l", maxFile+1), api.ErrLimit}, {repeat("x", 2*maxFile), api.ErrLimit}, {"i1;" + repeat(" ", maxFile-2), api.ErrLimit}, {"i1;" + repeat(" ", maxFile-3), api.ErrSyntax},
	} {
		v, e := codec.Decode(c.s)
		if e != c.want {
			t.Errorf("case %d: Decode(%.100q): %d, not %d", i, c.s, e, c.want)
		}
		if e != api.OK && !reflect.DeepEqual(v, api.Value{}) {
			t.Errorf("case %d: Decode(%.100q): %s with an error", i, c.s, short(v))
		}
		if len(c.s) < maxFile/2 {
			checkString(t, c.s)
		} else if back, f := codec.Encode(v); e == api.OK && (back != c.s || f != api.OK) {
			t.Errorf("P6.3: case %d: %d bytes, %d", i, len(back), f)
		}
	}
}

// P6.1 and P6.3 for all short strings of the characters of encodings, alone and in other ones.
func TestShortStrings(t *testing.T) {
	seen := map[api.Errno]int{}
	for _, s := range samples.Strings("lesi01-+:;", 5) {
		seen[checkString(t, s)]++
		seen[checkString(t, "l"+s+"e")]++
	}
	for _, s := range samples.Strings("les:012\x00", 3) {
		seen[checkString(t, "s2:"+s)]++
		seen[checkString(t, "s"+s+":ab")]++
		seen[checkString(t, "i"+s+";")]++
	}
	if seen[api.OK] < 100 || seen[api.ErrSyntax] < 100 {
		t.Errorf("the strings are one-sided: %v", seen)
	}
}

// P6.1 and P6.3 for all short strings of four parts of encodings.
func TestShortLists(t *testing.T) {
	seen := map[api.Errno]int{}
	parts := strings.NewReplacer("i", "i-5;", "s", "s1:")
	for _, s := range samples.Strings("leis", 8) {
		seen[checkString(t, parts.Replace(s))]++
		seen[checkString(t, "l"+parts.Replace(s)+"e")]++
	}
	if seen[api.OK] < 1000 || seen[api.ErrSyntax] < 1000 {
		t.Errorf("the strings are one-sided: %v", seen)
	}
}

// P6.1 and P6.3 for random strings of parts of encodings.
func TestRandomStrings(t *testing.T) {
	parts := []string{"l", "l", "l", "e", "e", "e", "le", "i0;", "i-1;", "i20;", "s0:", "s1:", "s2:ab", "s3:", "i", "s", "-", "0", "1", ";", ":", "x"}
	r := rand.New(rand.NewSource(1))
	seen := map[api.Errno]int{}
	for i := range 60000 {
		var s string
		for range 1 + r.Intn(10) {
			s += parts[r.Intn(len(parts))]
		}
		if i%2 == 0 {
			s = "l" + s + "e"
		}
		seen[checkString(t, s)]++
	}
	if seen[api.OK] < 2000 || seen[api.ErrSyntax] < 2000 {
		t.Errorf("the strings are one-sided: %v", seen)
	}
}

// P6.1 to P6.4 for chosen and random values, and for their encodings with a few changes.
func TestValues(t *testing.T) {
	r := rand.New(rand.NewSource(2))
	all := valid()
	for range 3000 {
		all = append(all, randomValue(r, 4))
	}
	seen := map[api.Errno]int{}
	for _, v := range all {
		check := unchanged(t, v)
		checkValue(t, v)
		s := encode(t, v)
		if back, e := codec.Decode(s); !codec.Same(back, v) || !wantedSame(back, v) || e != api.OK {
			t.Errorf("P6.2: Decode(Encode(%s)): %s, %d", short(v), short(back), e)
		}
		for range 10 {
			changed := change(r, s)
			if r.Intn(4) == 0 && changed != "" {
				changed = change(r, changed)
			}
			seen[checkString(t, changed)]++
		}
		check()
	}
	if seen[api.OK] < 1000 || seen[api.ErrSyntax] < 1000 {
		t.Errorf("the changes are one-sided: %v", seen)
	}
}

// P6.1 for random values, most of which are not valid.
func TestSpoiledValues(t *testing.T) {
	r := rand.New(rand.NewSource(3))
	seen := map[api.Errno]int{}
	for range 2000 {
		v := randomValue(r, 3)
		for range 1 + r.Intn(3) {
			v = spoil(r, v)
		}
		checkValue(t, v)
		seen[codec.Check(v)]++
	}
	if seen[api.OK] < 100 || seen[api.ErrKind] < 100 || seen[api.ErrLimit] < 100 {
		t.Errorf("the values are one-sided: %v", seen)
	}
}

// P6.4: what is in a list is encoded as it is outside.
func TestLists(t *testing.T) {
	r := rand.New(rand.NewSource(4))
	all := valid()
	for i := range 2000 {
		l := make([]api.Value, r.Intn(6))
		for j := range l {
			l[j] = randomValue(r, 2)
			if v := all[r.Intn(len(all))]; i%3 == 0 && depth(v) < maxDepth {
				l[j] = v
			}
		}
		want, sum := "", 0
		for _, v := range l {
			want += encode(t, v)
			n, e := codec.Size(v)
			if e != api.OK || n < 1 {
				t.Errorf("Size(%s): %d, %d", short(v), n, e)
			}
			sum += n
		}
		check := unchanged(t, l...)
		v := codec.List(l)
		if s := encode(t, v); s != "l"+want+"e" {
			t.Errorf("P6.4: Encode(%s): %.200q", short(v), s)
		}
		if n, e := codec.Size(v); n != sum+1 || e != api.OK {
			t.Errorf("P6.4: Size(%s): %d, %d", short(v), n, e)
		}
		check()
	}
}

// P6.5 and P6.6 for all pairs of values, no two of which are the same but those of the same index.
func TestPairs(t *testing.T) {
	all := valid()
	var encodings []string
	for _, v := range all {
		encodings = append(encodings, encode(t, v))
	}
	for i, v := range all {
		for j, w := range all {
			is := codec.Same(v, w)
			if is != (i == j) || is != (encodings[i] == encodings[j]) {
				t.Errorf("P6.6: %s and %s: %v", short(v), short(w), is)
			}
			if i != j && strings.HasPrefix(encodings[i], encodings[j]) {
				t.Errorf("P6.5: %s begins with %s", short(v), short(w))
			}
		}
	}
}

// P6.5: an encoding is none without its end, or with something behind it.
func TestPrefixes(t *testing.T) {
	for _, v := range valid() {
		s := encode(t, v)
		for n := range min(len(s), 1500) {
			if w, e := codec.Decode(s[:n]); e != api.ErrSyntax || !wantedSame(w, api.Value{}) {
				t.Errorf("Decode(%.100q): %s, %d", s[:n], short(w), e)
			}
		}
		for _, rest := range []string{"l", "e", "i", "s", ";", ":", "0", "\x00", "le", "i0;", "s0:", s} {
			if w, e := codec.Decode(s + rest); e != api.ErrSyntax || !wantedSame(w, api.Value{}) {
				t.Errorf("Decode(%.100q): %s, %d", s+rest, short(w), e)
			}
		}
	}
}

// P6.6 for random values, many of which are the same.
func TestEquality(t *testing.T) {
	r := rand.New(rand.NewSource(5))
	count := 0
	for range 20000 {
		v, w := randomValue(r, 2), randomValue(r, 2)
		if r.Intn(2) == 0 {
			w = copied(v)
		}
		is := codec.Same(v, w)
		if is != wantedSame(v, w) || is != (encode(t, v) == encode(t, w)) {
			t.Errorf("%s and %s: %v", short(v), short(w), is)
		}
		if is {
			count++
		}
	}
	if count < 5000 || count > 15000 {
		t.Errorf("%d of the pairs are the same", count)
	}
}

// P6.1 for Same of values of any kinds, with anything in any field.
func TestSame(t *testing.T) {
	var all []api.Value
	for _, kind := range []int{math.MinInt, -1, 0, 1, 2, 3, 4} {
		for _, n := range []int{0, 1, -1} {
			for _, s := range []string{"", "x"} {
				for _, items := range [][]api.Value{nil, {{}}, {number(1)}, {number(2)}, {number(1), number(1)}, {{Kind: 4}}, {{Items: []api.Value{{}}}}} {
					all = append(all, api.Value{Kind: kind, Number: n, Text: s, Items: items})
				}
			}
		}
	}
	all = append(all, wrong()...)
	texts := make([]string, len(all))
	for i, v := range all {
		texts[i] = fields(v)
	}
	check := unchanged(t, all...)
	for i, v := range all {
		for j, w := range all {
			if is := codec.Same(v, w); is != (texts[i] == texts[j]) {
				t.Fatalf("Same(%s, %s): %v", texts[i], texts[j], is)
			}
		}
	}
	check()
	// Empty lists are equal, on every level, and in fields of another kind.
	empty := []api.Value{}
	for i, c := range []struct {
		a, b api.Value
		want bool
	}{
		{api.Value{Kind: 3}, api.Value{Kind: 3, Items: empty}, true}, {api.Value{}, api.Value{Items: empty}, true}, {api.Value{Kind: 1, Number: 2}, api.Value{Kind: 1, Number: 2, Items: empty}, true}, {list(api.Value{Kind: 3, Items: empty}), list(list()), true}, {api.Value{Kind: 2, Items: []api.Value{{Items: empty}}}, api.Value{Kind: 2, Items: []api.Value{{}}}, true}, {api.Value{Kind: 3, Items: make([]api.Value, 0, 5)}, list(), true},
		{list(), text(""), false}, {number(0), text(""), false}, {number(0), api.Value{}, false}, {list(), api.Value{}, false}, {list(), list(list()), false}, {list(list()), list(), false}, {long(maxFile + 1), long(maxFile + 1), true}, {long(maxFile + 1), long(maxFile + 2), false}, {tooLong(1), tooLong(1), true}, {tooLong(1), tooLong(2), false}, {within(1<<16-1, number(1)), within(1<<16-1, number(1)), true}, {within(1<<16-1, number(1)), within(1<<16-1, number(2)), false}, {within(1000, list()), within(1001, list()), false},
	} {
		if codec.Same(c.a, c.b) != c.want || codec.Same(c.b, c.a) != c.want {
			t.Errorf("case %d: %v", i, !c.want)
		}
	}
}

// tooLong returns a list with more items than a valid one has, the last of which is n.
func tooLong(n int) api.Value {
	return list(append(times(maxList, number(0)).Items, number(n))...)
}

// P6.1 for Int, Text and List, also of what makes no valid value.
func TestMakers(t *testing.T) {
	for _, n := range []int{0, 1, -1, math.MaxInt, math.MinInt} {
		if v := codec.Int(n); !reflect.DeepEqual(v, api.Value{Kind: api.IntValue, Number: n}) {
			t.Errorf("Int(%d): %s", n, short(v))
		}
	}
	for _, s := range []string{"", "abc", "\x00\xff", allBytes(), strings.Repeat("x", maxFile+1)} {
		if v := codec.Text(s); !reflect.DeepEqual(v, api.Value{Kind: api.TextValue, Text: s}) {
			t.Errorf("Text(%.100q): %s", s, short(v))
		}
	}
	for _, l := range [][]api.Value{nil, {}, {number(1)}, {{}}, {{Kind: 4}, text("x"), list(list())}, tooLong(1).Items, {within(100, number(1))}} {
		check := unchanged(t, l...)
		v := codec.List(l)
		if v.Kind != api.ListValue || v.Number != 0 || v.Text != "" || len(v.Items) != len(l) || !wantedSame(v, list(l...)) {
			t.Errorf("List(%s): %s", short(list(l...)), short(v))
		}
		check()
	}
}

// The lists in a result are new memory, which they share with nothing.
func TestResultsAreNew(t *testing.T) {
	l := make([]api.Value, 2, 3)
	l[0], l[1] = number(1), text("a")
	v := codec.List(l)
	l[0] = number(2)
	if v = codec.List(v.Items); !wantedSame(v, list(number(1), text("a"))) {
		t.Errorf("List: %s", short(v))
	}
	s := encoding(list(list(list(), number(1)), list(number(2)), list(list(number(3), number(4)), times(5, number(6))), number(7)))
	decoded, e := codec.Decode(s)
	if e != api.OK {
		t.Fatalf("Decode(%q): %d", s, e)
	}
	var lists [][]api.Value
	for _, w := range inside(decoded) {
		lists = append(lists, w.Items[:cap(w.Items)])
	}
	for i, w := range lists {
		for j := range w {
			w[j] = number(i)
		}
	}
	for i, w := range lists {
		if slices.ContainsFunc(w, func(v api.Value) bool { return v.Number != i }) {
			t.Errorf("the list %d of %q shares its memory", i, s)
		}
	}
	checkString(t, s)
}
