package rule_test

import (
	"math/rand"
	"strings"
	"testing"

	"voyage/rule"
)

// part is a piece of a pattern: any bytes, or this one.
type part struct {
	any bool
	b   byte
}

// partsOf reads a pattern by the words of the document.
func partsOf(pattern string) []part {
	var out []part
	for pattern != "" {
		switch {
		case strings.HasPrefix(pattern, `\*`):
			out, pattern = append(out, part{b: '*'}), pattern[2:]
		case strings.HasPrefix(pattern, `\\`):
			out, pattern = append(out, part{b: '\\'}), pattern[2:]
		default:
			out, pattern = append(out, part{any: pattern[0] == '*', b: pattern[0]}), pattern[1:]
		}
	}
	return out
}

// speaks is Match by going along all ways at once: which beginnings of s the parts so far can be.
func speaks(pattern, s string) bool {
	can := make([]bool, len(s)+1)
	can[0] = true
	for _, p := range partsOf(pattern) {
		next := make([]bool, len(s)+1)
		for i := range next {
			if p.any {
				next[i] = can[i] || i > 0 && next[i-1]
			} else {
				next[i] = i > 0 && can[i-1] && s[i-1] == p.b
			}
		}
		can = next
	}
	return can[len(s)]
}

// words are all texts of these bytes that have at most so many of them.
func words(bytes string, most int) []string {
	out, last := []string{""}, []string{""}
	for range most {
		var longer []string
		for _, w := range last {
			for i := range len(bytes) {
				longer = append(longer, w+bytes[i:i+1])
			}
		}
		out, last = append(out, longer...), longer
	}
	return out
}

// matches wants what a pattern says of texts.
func matches(t *testing.T, pattern string, want bool, texts ...string) {
	t.Helper()
	for _, s := range texts {
		if got := rule.Match(pattern, s); got != want {
			t.Errorf("Match(%.100q, %.100q): %v", pattern, s, got)
		}
	}
}

// P7.2
func TestMatch(t *testing.T) {
	matches(t, `a*b\*`, true, "axxb*", "ab*", "ab*b*")
	matches(t, `a*b\*`, false, "axxb", "axxb*x", "axxbx", "b*", `axxb\*`, "")
	matches(t, "a*b", true, "ab", "axb", "abb", "abab", "a*b")
	matches(t, "a*b", false, "a", "b", "", "ba", "aba", "xab")
	matches(t, "", true, "")
	matches(t, "", false, "a", "*", `\`, " ", "\x00")
	matches(t, "a*a", true, "aa", "aaa", "axa")
	matches(t, "a*a", false, "a", "", "ab", "aab")

	// Stars at the beginning, at the end, in the middle, side by side.
	matches(t, "*", true, "", "a", "*", `\`, "\n", "\xff", "any bytes\x00 at all")
	matches(t, "**", true, "", "x", "xy")
	matches(t, "***", true, "", "x", "xy")
	matches(t, "*a", true, "a", "aa", "ba", "xxa")
	matches(t, "*a", false, "", "ab", "aab")
	matches(t, "a*", true, "a", "aa", "ab")
	matches(t, "a*", false, "", "ba", "b")
	matches(t, "*a*", true, "a", "bab", "aa")
	matches(t, "*a*", false, "", "b", "bbb")
	matches(t, "**a**", true, "a", "bab")
	matches(t, "a**b", true, "ab", "axb", "axxb")
	matches(t, "a**b", false, "a", "b", "abx")
	matches(t, "*a*b*", true, "xaybz", "ab", "aab")
	matches(t, "*a*b*", false, "ba", "a", "b", "")
	matches(t, "*ab", true, "aab", "abab")
	matches(t, "*aab", true, "aaab")
	matches(t, "*ab*ba*", true, "abba", "ababba")
	matches(t, "*ab*ba*", false, "aba")
	matches(t, "ab*ba", true, "abba", "abxba")
	matches(t, "ab*ba", false, "aba")
	matches(t, "a*b*c", true, "abc", "abbc", "abcbc", "abcc")
	matches(t, "a*b*c", false, "ac", "acb", "abcb")
	matches(t, "*.log", true, "x.log.log", ".log")
	matches(t, "*.log", false, "xlog", "x.log.")

	// Backslashes ahead of a star, a backslash, another byte, and at the end.
	matches(t, `\*`, true, "*")
	matches(t, `\*`, false, "", "x", `\`, `\*`, "**")
	matches(t, `\\`, true, `\`)
	matches(t, `\\`, false, `\\`, "", "*")
	matches(t, `\`, true, `\`)
	matches(t, `\`, false, "", `\\`, "x")
	matches(t, `\a`, true, `\a`)
	matches(t, `\a`, false, "a", `\`, `\\a`, "")
	matches(t, `a\`, true, `a\`)
	matches(t, `a\`, false, "a", `a\\`)
	matches(t, `\\*`, true, `\`, `\*`, `\x`)
	matches(t, `\\*`, false, "*", "x", "")
	matches(t, `\\\*`, true, `\*`)
	matches(t, `\\\*`, false, `\`, `\x`, `\\*`)
	matches(t, `\\\`, true, `\\`)
	matches(t, `\\\a`, true, `\\a`)
	matches(t, `\\\\`, true, `\\`)
	matches(t, `*\`, true, `\`, `x\`)
	matches(t, `*\`, false, "", "x", `\x`)
	matches(t, `*\*`, true, "*", "x*", "**")
	matches(t, `*\*`, false, "", "x", "*x")
	matches(t, `\**`, true, "*", "*x", "**")
	matches(t, `\**`, false, "", "x", "x*")
	matches(t, `*\**`, true, "*", "x*y")
	matches(t, `*\**`, false, "", "xy")
	matches(t, `\*\*`, true, "**")
	matches(t, `\a*`, true, `\a`, `\ab`)
	matches(t, "\\\n", true, "\\\n")

	// Bytes, not letters; none of them means anything but star and backslash.
	matches(t, "*\xff", true, "a\xff", "\xff")
	matches(t, "*\xff", false, "\ufffd", "\xfe", "")
	matches(t, "\xff", true, "\xff")
	matches(t, "\xff", false, "\ufffd", "\x80", "")
	matches(t, "\ufffd", false, "\xff", "\x80")
	matches(t, "\xc3*", true, "é", "\xc3")
	matches(t, "*\xa9", true, "é", "\xa9")
	matches(t, "\xc3*\xa9", true, "é", "\xc3x\xa9")
	matches(t, "\\\xff", true, "\\\xff")
	matches(t, "é*", true, "é", "éx")
	matches(t, "?", true, "?")
	matches(t, "?", false, "a", "")
	matches(t, "[ab].+", true, "[ab].+")
	matches(t, "[ab].+", false, "a", "ab")
	matches(t, "a", false, "A")
	matches(t, "\x00*\x00", true, "\x00\x00")
}

// P7.2: every byte, alone and behind a backslash.
func TestMatchEveryByte(t *testing.T) {
	for b := range 256 {
		for c := range 256 {
			x, y := string([]byte{byte(b)}), string([]byte{byte(c)})
			matches(t, x, b == c || x == "*", y)
			matches(t, `\`+x, x != "*" && x != `\` && b == c, `\`+y)
			matches(t, `\`+x, (x == "*" || x == `\`) && b == c, y)
			matches(t, "a*"+x, b == c || x == "*", "ab"+y)
		}
	}
}

// P7.2: every short pattern and every short text.
func TestMatchShort(t *testing.T) {
	texts := words(`ab*\`, 5)
	for _, pattern := range words(`ab*\`, 5) {
		for _, s := range texts {
			if got := rule.Match(pattern, s); got != speaks(pattern, s) {
				t.Fatalf("Match(%q, %q): %v", pattern, s, got)
			}
		}
	}
	texts = words("ab", 8)
	for _, pattern := range words("ab*", 7) {
		for _, s := range texts {
			if got := rule.Match(pattern, s); got != speaks(pattern, s) {
				t.Fatalf("Match(%q, %q): %v", pattern, s, got)
			}
		}
	}
}

// anyBytes is a text of at most so many of these bytes.
func anyBytes(r *rand.Rand, bytes string, most int) string {
	var out strings.Builder
	for range r.Intn(most + 1) {
		out.WriteByte(bytes[r.Intn(len(bytes))])
	}
	return out.String()
}

// asPattern makes a pattern that speaks of s: stars in the place of some of it, and other bytes as they must be told.
func asPattern(r *rand.Rand, s string) string {
	var out strings.Builder
	for i := 0; i < len(s); i++ {
		if r.Intn(6) == 0 {
			out.WriteByte('*')
			i += r.Intn(4)
			continue
		}
		if s[i] == '*' || s[i] == '\\' {
			out.WriteByte('\\')
		}
		out.WriteByte(s[i])
	}
	return out.String()
}

// P7.2: longer ones, most of which match or nearly so.
func TestMatchLong(t *testing.T) {
	r := rand.New(rand.NewSource(7))
	met := 0
	for range 60000 {
		bytes := []string{`ab*\`, "ab", "a\xff\xc3\xa9*", "abc*\\\x00\n"}[r.Intn(4)]
		s := anyBytes(r, bytes, 60)
		pattern := asPattern(r, s)
		if r.Intn(3) == 0 {
			s = s[:r.Intn(len(s)+1)] + anyBytes(r, bytes, 2) + s[r.Intn(len(s)+1):]
		}
		want := speaks(pattern, s)
		if got := rule.Match(pattern, s); got != want {
			t.Fatalf("Match(%q, %q): %v", pattern, s, got)
		}
		if want {
			met++
		}
	}
	if met < 10000 {
		t.Errorf("too few that match: %d", met)
	}
}

// P7.2: long texts and patterns that nearly match, and end in good time.
func TestMatchGreat(t *testing.T) {
	const size = 1 << 20
	a := strings.Repeat("a", size)
	matches(t, "*"+a[:size/2]+"b", false, a)
	matches(t, "*"+a[:size/2]+"b*", false, a)
	matches(t, "*"+a[:size/2]+"b", true, a+"b")
	matches(t, strings.Repeat("*a", size/2)+"*b", false, a)
	matches(t, strings.Repeat("a*", size/2), true, a)
	matches(t, strings.Repeat("a*", size+1), false, a)
	matches(t, strings.Repeat("*", size), true, a, "")
	matches(t, strings.Repeat(`\*`, size), true, strings.Repeat("*", size))
	matches(t, strings.Repeat(`\\`, size), true, strings.Repeat(`\`, size))
	matches(t, strings.Repeat(`\`, size), true, strings.Repeat(`\`, size/2))
	matches(t, strings.Repeat(`\`, size-1), true, strings.Repeat(`\`, size/2))
	matches(t, a, true, a)
	matches(t, a, false, a[1:], a[1:]+"b")
}

// P7.7: what follows of Match.
func TestMatchLaws(t *testing.T) {
	r := rand.New(rand.NewSource(8))
	joined := 0
	for range 40000 {
		s, u := anyBytes(r, "ab\xff", 6), anyBytes(r, "ab\xff", 6)
		matches(t, s, s == u, u)
		matches(t, "*", true, s)
		a, b := anyBytes(r, `ab**\`, 6), anyBytes(r, `ab**\`, 6)
		s, u = anyBytes(r, `ab*\`, 5), anyBytes(r, `ab*\`, 5)
		if r.Intn(2) == 0 {
			a, b = asPattern(r, s), asPattern(r, u)
		}
		if !strings.HasSuffix(a, `\`) && rule.Match(a, s) && rule.Match(b, u) {
			joined++
			matches(t, a+b, true, s+u)
		}
	}
	if joined < 5000 {
		t.Errorf("too few that are put together: %d", joined)
	}
}
