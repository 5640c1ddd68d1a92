// Package samples makes strings with which the tests of other packages call their functions.
package samples

// Strings returns all strings of at most most of the bytes of chars, shorter ones first.
func Strings(chars string, most int) []string {
	all := []string{""}
	last := all
	for range most {
		var next []string
		for _, s := range last {
			for i := range len(chars) {
				next = append(next, s+chars[i:i+1])
			}
		}
		all = append(all, next...)
		last = next
	}
	return all
}
