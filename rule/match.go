package rule

import "strings"

// The bytes of a pattern that don't stand for themselves.
const (
	star   = '*'
	escape = '\\'
)

// Match tells whether a text is one of which a pattern speaks: P7.2. What stands between two stars is taken where it is found first: that leaves the most for what follows.
func Match(pattern, s string) bool {
	piece, rest, more := cutStar(pattern)
	if !more {
		return s == piece
	}
	s, found := strings.CutPrefix(s, piece)
	for found {
		piece, rest, more = cutStar(rest)
		if !more {
			return strings.HasSuffix(s, piece)
		}
		_, s, found = strings.Cut(s, piece)
	}
	return false
}

// cutStar gives the bytes of which a pattern speaks ahead of its first star, and what stands behind that star; more: there is one.
func cutStar(pattern string) (piece, rest string, more bool) {
	var out strings.Builder
	for i := 0; i < len(pattern); i++ {
		if pattern[i] == star {
			return out.String(), pattern[i+1:], true
		}
		if escapes(pattern[i:]) {
			i++
		}
		out.WriteByte(pattern[i])
	}
	return out.String(), "", false
}

// escapes tells whether a pattern begins with a backslash that makes a star, or a backslash, stand for itself.
func escapes(pattern string) bool {
	return len(pattern) > 1 && pattern[0] == escape && (pattern[1] == star || pattern[1] == escape)
}
