package json_test

import (
	"fmt"
	"math/rand"
	"strings"
	"testing"

	"voyage/api"
	"voyage/dec"
	"voyage/json"
)

// What may stand at a place of a text.
const (
	dueValue = iota
	dueValueOrEnd
	dueName
	dueNameOrEnd
	dueColon
	dueCommaOrEnd
	dueNothing
)

// frame is an open list or object, with the names that were in it.
type frame struct {
	object bool
	names  map[string]bool
}

// checker goes through a text piece by piece, with a stack of what is open: another way of telling what is wrong with it.
type checker struct {
	s     string
	at    int
	due   int
	stack []frame
}

// wrong tells where and how a text is wrong first; -1 and nil, if it isn't.
func wrong(s string) (int, error) {
	if len(s) > api.MaxText {
		return 0, api.ErrLong
	}
	c := checker{s: s}
	for {
		c.at += len(c.s[c.at:]) - len(strings.TrimLeft(c.s[c.at:], " \t\n\r"))
		if c.at == len(s) {
			if c.due == dueNothing {
				return -1, nil
			}
			return c.at, api.ErrDue
		}
		if at, err := c.piece(); err != nil {
			return at, err
		}
	}
}

// piece goes past a bracket, a comma, a colon, a word, a number or a text.
func (c *checker) piece() (int, error) {
	from, b := c.at, c.s[c.at]
	value := c.due == dueValue || c.due == dueValueOrEnd
	switch {
	case b == '"' && (c.due == dueName || c.due == dueNameOrEnd):
		name, at, err := c.text()
		if err != nil {
			return at, err
		}
		top := c.stack[len(c.stack)-1]
		if top.names[name] {
			return from, api.ErrTwice
		}
		top.names[name] = true
		c.due = dueColon
	case b == '"' && value:
		if _, at, err := c.text(); err != nil {
			return at, err
		}
		c.ended()
	case (b == '[' || b == '{') && value:
		if len(c.stack) == api.MaxDepth {
			return from, api.ErrDeep
		}
		c.stack = append(c.stack, frame{object: b == '{', names: map[string]bool{}})
		c.due = dueValueOrEnd
		if b == '{' {
			c.due = dueNameOrEnd
		}
		c.at++
	case b == ']' && (c.due == dueValueOrEnd || c.due == dueCommaOrEnd && !c.inObject()), b == '}' && (c.due == dueNameOrEnd || c.due == dueCommaOrEnd && c.inObject()):
		c.stack = c.stack[:len(c.stack)-1]
		c.at++
		c.ended()
	case b == ',' && c.due == dueCommaOrEnd:
		c.due = dueValue
		if c.inObject() {
			c.due = dueName
		}
		c.at++
	case b == ':' && c.due == dueColon:
		c.due = dueValue
		c.at++
	case value && (b == '-' || b >= '0' && b <= '9'):
		rest := strings.TrimLeft(c.s[c.at:], "0123456789+-.eE")
		c.at = len(c.s) - len(rest)
		if _, err := dec.Parse(c.s[from:c.at]); err != nil {
			return from, err
		}
		c.ended()
	case value:
		for _, word := range []string{"null", "true", "false"} {
			if strings.HasPrefix(c.s[c.at:], word) {
				c.at += len(word)
				c.ended()
				return 0, nil
			}
		}
		return from, api.ErrDue
	default:
		return from, api.ErrDue
	}
	return 0, nil
}

func (c *checker) inObject() bool { return c.stack[len(c.stack)-1].object }

// ended: a value has.
func (c *checker) ended() {
	c.due = dueCommaOrEnd
	if len(c.stack) == 0 {
		c.due = dueNothing
	}
}

// text goes past a text.
func (c *checker) text() (string, int, error) {
	out := ""
	for c.at++; ; {
		rest := c.s[c.at:]
		var a, b rune
		letter, size := utf8Letter(rest)
		switch {
		case size == 0 || letter < 0x20:
			return "", c.at, api.ErrText
		case letter == '"':
			c.at++
			return out, 0, nil
		case letter != '\\':
		case len(rest) > 1 && strings.IndexByte(`"\/bfnrt`, rest[1]) >= 0:
			letter, size = rune("\"\\/\b\f\n\r\t"[strings.IndexByte(`"\/bfnrt`, rest[1])]), 2
		case !hexNumber(rest, &a):
			return "", c.at, api.ErrText
		case a < 0xd800 || a >= 0xe000:
			letter, size = a, 6
		case a < 0xdc00 && hexNumber(rest[6:], &b) && b >= 0xdc00 && b < 0xe000:
			letter, size = 0x10000+(a-0xd800)*0x400+b-0xdc00, 12
		default:
			return "", c.at, api.ErrText
		}
		out += string(letter)
		c.at += size
	}
}

// hexNumber reads `\u` and four digits.
func hexNumber(s string, n *rune) bool {
	if len(s) < 6 || s[0] != '\\' || s[1] != 'u' || strings.Trim(s[2:6], "0123456789abcdefABCDEF") != "" {
		return false
	}
	_, err := fmt.Sscanf(s[2:6], "%x", n)
	return err == nil
}

func checkWrong(t *testing.T, s string) {
	at, want := wrong(s)
	got, err := json.Parse(s)
	if want == nil {
		if err != nil {
			t.Fatalf("Parse(%q): %v", s, err)
		}
		if back, err := json.Parse(json.Print(got)); err != nil || !identical(back, got) || !identical(json.Norm(got), got) {
			t.Fatalf("Parse(%q): %+v, printed and read again: %+v, %v", s, got, back, err)
		}
		return
	}
	if f, ok := err.(*api.Fault); !ok || f.At != at || f.Err != want || f.Where != "" || !identical(got, null()) {
		t.Fatalf("Parse(%q): %+v, %v, want %d: %v", s, got, err, at, want)
	}
}

// P2.4 to P2.7: all short texts of a few pieces.
func TestParseAllShortTexts(t *testing.T) {
	for _, pieces := range [][]string{
		{"[", "]", "{", "}", ",", ":", `"a"`, `"b"`, "1", " ", "null", "x"},
		{`"`, `\`, "u", "0", "n", "d8", "dc", "\xc3", "\xa9", "\x1f", "00"},
		{"-", "+", ".", "e", "E", "0", "1", "[", ",", "]", " "},
	} {
		var grow func(s string, left int)
		grow = func(s string, left int) {
			checkWrong(t, s)
			if left > 0 {
				for _, p := range pieces {
					grow(s+p, left-1)
				}
			}
		}
		grow("", 5)
	}
	for _, ahead := range []string{`"\ud8`, `{"a":1,"\u00`, `["`, `"\ud83d\u`} {
		for a := range 256 {
			for b := range 256 {
				checkWrong(t, ahead+string([]byte{byte(a), byte(b)})+`61":1}`)
			}
		}
	}
}

// P2.4 to P2.7: texts that are right but for a byte or a few.
func TestParseSpoiledTexts(t *testing.T) {
	const bytes = "[]{},:\"\\u0123456789abcdefDCnrtl+-.eE \t\n\x00\x1f\x7f\x80\xbf\xc3\xa9\xe2\x82\xed\xa0\xf0\x9f\xff"
	r := rand.New(rand.NewSource(5))
	for i := range 40000 {
		s := []byte(styled(r, plainNorm(anyValue(r, 1+i%4))))
		checkWrong(t, string(s))
		for range 1 + r.Intn(3) {
			at := r.Intn(len(s) + 1)
			b := bytes[r.Intn(len(bytes))]
			switch r.Intn(4) {
			case 0:
				s = s[:at]
			case 1:
				s = append(s[:at:at], append([]byte{b}, s[at:]...)...)
			default:
				if at == len(s) {
					continue
				}
				s[at] = b
			}
		}
		checkWrong(t, string(s))
	}
}
