// Package path tells which names files and rules may have: see doc/01-path.md.
package path

import (
	"strings"

	"shipwright/api"
)

// May reports whether s is a valid name.
func May(s string) bool {
	if len(s) > api.MaxName || isClause(s) {
		return false
	}
	for _, p := range Parts(s) {
		if !mayPart(p) {
			return false
		}
	}
	return true
}

// Join returns the nonempty ones of parts, with a slash between two of them.
func Join(parts ...string) string {
	var kept []string
	for _, p := range parts {
		if p != "" {
			kept = append(kept, p)
		}
	}
	return strings.Join(kept, "/")
}

// Parts returns the substrings between the slashes of s, in order.
func Parts(s string) []string {
	return strings.Split(s, "/")
}

// Norm returns s without its empty, "." and ".." parts, and whether that is a valid name.
func Norm(s string) (string, bool) {
	var kept []string
	for _, p := range Parts(s) {
		switch p {
		case "", ".":
		case "..":
			if len(kept) == 0 {
				return "", false
			}
			kept = kept[:len(kept)-1]
		default:
			kept = append(kept, p)
		}
	}
	name := Join(kept...)
	if !May(name) {
		return "", false
	}
	return name, true
}

// isClause reports whether s is a word that begins a rule or a clause of one:
// as a name, it would make rule files ambiguous.
func isClause(s string) bool {
	switch s {
	case "rule", "in", "out", "after":
		return true
	}
	return false
}

// mayPart reports whether p can be a part of a valid name.
func mayPart(p string) bool {
	if p == "" || p == "." || p == ".." {
		return false
	}
	for i := range len(p) {
		if !mayByte(p[i]) {
			return false
		}
	}
	return true
}

// mayByte reports whether c can stand in a part of a valid name.
func mayByte(c byte) bool {
	switch {
	case 'a' <= c && c <= 'z', 'A' <= c && c <= 'Z', '0' <= c && c <= '9':
		return true
	}
	return c == '.' || c == '_' || c == '-'
}
