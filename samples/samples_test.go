package samples_test

import (
	"slices"
	"testing"

	"apograph/samples"
)

func TestStrings(t *testing.T) {
	for i, c := range []struct {
		chars string
		most  int
		want  []string
	}{
		{"ab", 0, []string{""}},
		{"", 2, []string{""}},
		{"a\xff", 2, []string{"", "a", "\xff", "aa", "a\xff", "\xffa", "\xff\xff"}},
		{"a", 3, []string{"", "a", "aa", "aaa"}},
	} {
		if l := samples.Strings(c.chars, c.most); !slices.Equal(l, c.want) {
			t.Errorf("case %d: %q", i, l)
		}
	}
}
