package samples_test

import (
	"slices"
	"testing"

	"apograph/samples"
)

func TestStrings(t *testing.T) {
	for i, c := range []struct {
		chars string
		most  int
		want  []string
	}{
		{"ab", 0, []string{""}},
		{"", 2, []string{""}},
		{"a\xff", 2, []string{"", "a", "\xff", "aa", "a\xff", "\xffa", "\xff\xff"}},
		{"a", 3, []string{"", "a", "aa", "aaa"}},
	} {
		if l := samples.Strings(c.chars, c.most); !slices.Equal(l, c.want) {
			t.Errorf("case %d: %q", i, l)
		}
	}
}

// counter counts the errors of a test.
type counter int

func (c *counter) Helper() {}

func (c *counter) Errorf(string, ...any) { *c++ }

func TestUnchanged(t *testing.T) {
	var errors counter
	a, b := []int{1, 2}, []int{3}
	check := samples.Unchanged(&errors, a, nil, b)
	check()
	if errors != 0 {
		t.Errorf("%d errors without a change", errors)
	}
	b[0] = 4
	check()
	if errors != 1 {
		t.Errorf("%d errors with a change", errors)
	}
}
