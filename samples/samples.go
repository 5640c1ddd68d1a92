// Package samples makes strings and nodes with which the tests of other packages call their functions, and checks that lists stay as they are, or share no memory.
package samples

import "slices"

// Strings returns all strings of at most most of the bytes of chars, shorter ones first.
func Strings(chars string, most int) []string {
	all := []string{""}
	last := all
	for range most {
		var next []string
		for _, s := range last {
			for i := range len(chars) {
				next = append(next, s+chars[i:i+1])
			}
		}
		all = append(all, next...)
		last = next
	}
	return all
}

// Tester is what a check needs of a test.
type Tester interface {
	Helper()
	Errorf(format string, args ...any)
}

// Unchanged returns a function that fails the test if the lists are not the same any more.
func Unchanged[E comparable](t Tester, l ...[]E) func() {
	given := make([][]E, len(l))
	for i, a := range l {
		given[i] = slices.Clone(a)
	}
	return func() {
		t.Helper()
		for i, a := range l {
			if !slices.Equal(a, given[i]) {
				t.Errorf("%v was changed to %v", given[i], a)
			}
		}
	}
}
