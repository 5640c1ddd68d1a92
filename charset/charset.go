// Package charset says of which characters texts consist, and compares words in dictionary order.
package charset

import (
	"iter"
	"strings"

	"apograph/api"
)

// Kind returns the kind of the character c, and 0 if it does not belong to the alphabet.
func Kind(c byte) int {
	switch {
	case 'a' <= c && c <= 'z', 'A' <= c && c <= 'Z':
		return api.LetterChar
	case '0' <= c && c <= '9':
		return api.DigitChar
	}
	switch c {
	case '^', '~', '%':
		return api.MarkChar
	case '\'':
		return api.JoinChar
	case '.', ',', ';', ':', '!', '?', '(', ')', '-':
		return api.PunctChar
	case ' ':
		return api.SpaceChar
	}
	return 0
}

// Check returns why s is not accepted as a text.
func Check(s string) api.Errno {
	if len(s) > api.MaxText {
		return api.ErrLimit
	}
	for c, cluster := range characters(s) {
		if Kind(c) == 0 || Kind(c) == api.MarkChar && !standsRight(c, cluster) {
			return api.ErrChar
		}
	}
	return api.OK
}

// IsWord reports whether s is a word.
func IsWord(s string) bool {
	if len(s) == 0 || len(s) > api.MaxWord || !isLetterOrDigit(s[0]) {
		return false
	}
	for c, cluster := range characters(s) {
		switch Kind(c) {
		case api.LetterChar, api.DigitChar, api.JoinChar:
		case api.MarkChar:
			if !standsRight(c, cluster) {
				return false
			}
		default:
			return false
		}
	}
	return true
}

// IsName reports whether s is a name.
func IsName(s string) bool {
	return 0 < len(s) && len(s) <= api.MaxName && Letters(s) == len(s)
}

// Fold returns s with small letters instead of capitals.
func Fold(s string) string {
	// The functions of package strings would replace bytes that are not UTF-8.
	folded := []byte(s)
	for i, c := range folded {
		if 'A' <= c && c <= 'Z' {
			folded[i] = c - 'A' + 'a'
		}
	}
	return string(folded)
}

// Plain returns s without its marks.
func Plain(s string) string {
	plain := make([]byte, 0, len(s))
	for i := range len(s) {
		if Kind(s[i]) != api.MarkChar {
			plain = append(plain, s[i])
		}
	}
	return string(plain)
}

// Letters returns how many letters and digits s has.
func Letters(s string) int {
	count := 0
	for i := range len(s) {
		if isLetterOrDigit(s[i]) {
			count++
		}
	}
	return count
}

// Clusters returns the clusters of s.
func Clusters(s string) []string {
	var clusters []string
	for c, cluster := range characters(s) {
		if !standsRight(c, cluster) {
			clusters = append(clusters, cluster)
		}
	}
	return clusters
}

// Compare returns -1, 0 or 1, as a stands before b in dictionary order, is equal to it, or stands behind it.
func Compare(a, b string) int {
	steps := []func(a, b string) int{compareFoldedPlain, comparePlain, strings.Compare}
	for _, compare := range steps {
		if order := compare(a, b); order != 0 {
			return order
		}
	}
	return 0
}

func compareFoldedPlain(a, b string) int {
	return strings.Compare(Fold(Plain(a)), Fold(Plain(b)))
}

func comparePlain(a, b string) int {
	return strings.Compare(Plain(a), Plain(b))
}

// characters yields each character of s with the cluster to which it belongs.
func characters(s string) iter.Seq2[byte, string] {
	return func(yield func(byte, string) bool) {
		for rest := s; rest != ""; {
			cluster := firstCluster(rest)
			rest = rest[len(cluster):]
			for i := range len(cluster) {
				if !yield(cluster[i], cluster) {
					return
				}
			}
		}
	}
}

// firstCluster returns the first cluster of a string that is not empty, and begins where a cluster begins.
func firstCluster(s string) string {
	end := 1
	if Kind(s[0]) == api.LetterChar {
		for end < len(s) && Kind(s[end]) == api.MarkChar {
			end++
		}
	}
	return s[:end]
}

// standsRight reports whether c is a mark that stands right. A mark that does not is a cluster of its own.
func standsRight(c byte, cluster string) bool {
	return Kind(c) == api.MarkChar && len(cluster) > 1
}

func isLetterOrDigit(c byte) bool {
	kind := Kind(c)
	return kind == api.LetterChar || kind == api.DigitChar
}
