package samples_test

import (
	"slices"
	"testing"

	"apograph/api"
	"apograph/samples"
)

func TestStrings(t *testing.T) {
	for i, c := range []struct {
		chars string
		most  int
		want  []string
	}{
		{"ab", 0, []string{""}},
		{"", 2, []string{""}},
		{"a\xff", 2, []string{"", "a", "\xff", "aa", "a\xff", "\xffa", "\xff\xff"}},
		{"a", 3, []string{"", "a", "aa", "aaa"}},
	} {
		if l := samples.Strings(c.chars, c.most); !slices.Equal(l, c.want) {
			t.Errorf("case %d: %q", i, l)
		}
	}
}

// counter counts the errors of a test.
type counter int

func (c *counter) Helper() {}

func (c *counter) Errorf(string, ...any) { *c++ }

func TestUnchanged(t *testing.T) {
	var errors counter
	a, b := []int{1, 2}, []int{3}
	check := samples.Unchanged(&errors, a, nil, b)
	check()
	if errors != 0 {
		t.Errorf("%d errors without a change", errors)
	}
	b[0] = 4
	check()
	if errors != 1 {
		t.Errorf("%d errors with a change", errors)
	}
}

// nodes returns some nodes, of which the ones with Parts share them if shared is true.
func nodes(shared bool) []api.Node {
	parts := []api.Node{{Kind: api.TextNode, Text: "a"}, {Kind: api.LineNode}}
	l := []api.Node{{Kind: api.UnclearNode, Parts: parts}, {Kind: api.AddNode, Number: 2, Parts: parts}}
	if !shared {
		return samples.Copied(l)
	}
	return l
}

func TestFields(t *testing.T) {
	for i, c := range []struct {
		l    []api.Node
		want string
	}{
		{nil, "[]"},
		{[]api.Node{}, "[]"},
		{nodes(true), `[(7 "" 0 [(1 "a" 0 [])(2 "" 0 [])])(8 "" 2 [(1 "a" 0 [])(2 "" 0 [])])]`},
		{[]api.Node{{Kind: -1, Text: "(\""}}, `[(-1 "(\"" 0 [])]`},
	} {
		if s := samples.Fields(c.l); s != c.want {
			t.Errorf("case %d: %s", i, s)
		}
	}
}

func TestCopied(t *testing.T) {
	l := nodes(true)
	want := samples.Fields(l)
	out := samples.Copied(l)
	if s := samples.Fields(out); s != want {
		t.Error(s)
	}
	out[0].Parts[0].Text, out[1].Parts[1].Kind, out[1].Kind = "b", api.VerseNode, api.DeleteNode
	if s := samples.Fields(l); s != want {
		t.Errorf("changed with its copy: %s", s)
	}
}

func TestDoubled(t *testing.T) {
	if s := samples.Fields(samples.Doubled(0)); s != `[(2 "" 0 [])]` {
		t.Error(s)
	}
	if s := samples.Fields(samples.Doubled(1)); s != `[(7 "" 0 [(2 "" 0 [])])(7 "" 0 [(2 "" 0 [])])]` {
		t.Error(s)
	}
	if l := samples.Doubled(60); len(l) != 2 || &l[0].Parts[0] != &l[1].Parts[0] {
		t.Error("no shared memory")
	}
}

func TestCheckNew(t *testing.T) {
	long := make([]api.Node, 4)
	for i, c := range []struct {
		result, other []api.Node
		isNew         bool
	}{
		{nil, nil, true},
		{nodes(false), nil, true},
		{nodes(false), nodes(false), true},
		{nodes(false), nodes(true), true},
		{nodes(true), nil, false},
		{long[:1], long, false},
		{long[1:2], long[2:], false},
		{long[1:2], long[:2], false},
		{[]api.Node{{Parts: long[:1]}, {Parts: long[1:]}}, nil, false},
	} {
		for i := range long {
			long[i].Kind = api.LineNode
		}
		var errors counter
		if samples.CheckNew(&errors, c.result, c.other); (errors == 0) != c.isNew {
			t.Errorf("case %d: %d errors", i, errors)
		}
		for _, n := range c.result {
			if n.Kind != 0 || n.Parts != nil {
				t.Errorf("case %d: %v is left", i, n)
			}
		}
	}
}
