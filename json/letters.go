package json

import (
	"strconv"
	"strings"
	"unicode/utf8"

	"voyage/api"
)

// UTF-16 tells a letter from pairBase on by two numbers: a first one, from firstHalf on, and a second one, from secondHalf on, with ten bits of it in each.
const (
	firstHalf  = 0xd800
	secondHalf = 0xdc00
	lastHalf   = 0xdfff
	halfBits   = 10
	pairBase   = 0x10000
)

const (
	numberMark = `\u`
	numberSize = len(numberMark) + 4
)

// letters reads a text, at whose first `"` the reader stands: P2.6.
func (r *reader) letters() (string, error) {
	var out strings.Builder
	r.at++
	for r.next() != '"' {
		letter, size := letterAt(r.source[r.at:])
		if size == 0 {
			return "", r.fault(api.ErrText)
		}
		out.WriteRune(letter)
		r.at += size
	}
	r.at++
	return out.String(), nil
}

// letterAt gives the letter that is told at the beginning of s, and by how many bytes; by none, if there is no letter that may stand in a text.
func letterAt(s string) (rune, int) {
	letter, size := utf8.DecodeRuneInString(s)
	switch letter {
	case '\\':
		return escaped(s)
	case utf8.RuneError:
		if size <= 1 { // it isn't that letter itself, but stands for a byte that begins none, or for the end
			return 0, 0
		}
	}
	if letter < ' ' {
		return 0, 0
	}
	return letter, size
}

// escaped is letterAt where a `\` stands.
func escaped(s string) (rune, int) {
	if len(s) < 2 {
		return 0, 0
	}
	switch mark := rune(s[1]); mark {
	case '"', '\\', '/':
		return mark, 2
	case 'b':
		return '\b', 2
	case 'f':
		return '\f', 2
	case 'n':
		return '\n', 2
	case 'r':
		return '\r', 2
	case 't':
		return '\t', 2
	case 'u':
		return numbered(s)
	}
	return 0, 0
}

// numbered is letterAt where a `\u` stands.
func numbered(s string) (rune, int) {
	first, ok := numberAt(s)
	switch {
	case !ok:
		return 0, 0
	case first < firstHalf || first > lastHalf:
		return first, numberSize
	case first >= secondHalf:
		return 0, 0
	}
	second, ok := numberAt(s[numberSize:])
	if !ok || second < secondHalf || second > lastHalf {
		return 0, 0
	}
	return pairBase + (first-firstHalf)<<halfBits + (second - secondHalf), 2 * numberSize
}

// numberAt reads a `\u` and four hexadecimal digits at the beginning of s.
func numberAt(s string) (rune, bool) {
	if len(s) < numberSize || !strings.HasPrefix(s, numberMark) {
		return 0, false
	}
	number, err := strconv.ParseUint(s[len(numberMark):numberSize], 16, 16)
	return rune(number), err == nil
}
