package path_test

import (
	"fmt"
	"math"
	"regexp"
	"strconv"
	"strings"
	"testing"

	"voyage/api"
	"voyage/path"
)

func times(n int, s string) string { return strings.Repeat(s, n) }

// refuses: s is refused by a fault itself, with its place; nothing else is answered.
func refuses(t *testing.T, s string, place int) {
	t.Helper()
	got, err := path.Parse(s)
	f, ok := err.(*api.Fault)
	if !ok || f.At != place || f.Err != api.ErrPath || f.Where != "" || !samePath(got, api.Path{}) {
		t.Errorf("Parse(%.80q): %+v, %v, want a fault at %d", s, got, err, place)
	}
}

// P3.1 to P3.3
func TestParse(t *testing.T) {
	for _, x := range []struct {
		s    string
		want api.Path
	}{
		{"$", input()}, {"$$", context()}, {"$.a.b-c[-1]", input(name("a"), name("b-c"), at(-1))}, {`$['a']['it\'s']`, input(name("a"), name("it's"))}, {"$$.Execution", context(name("Execution"))}, {"$$[0]", context(at(0))}, {"$$['']", context(name(""))},
		{"$.A.Z.a.z.0.9._.-", input(name("A"), name("Z"), name("a"), name("z"), name("0"), name("9"), name("_"), name("-"))}, {"$.-1", input(name("-1"))}, {"$.007", input(name("007"))}, {"$.null", input(name("null"))}, {"$.a_-9Z", input(name("a_-9Z"))},
		{"$[0]", input(at(0))}, {"$[1]", input(at(1))}, {"$[10]", input(at(10))}, {"$[100][9]", input(at(100), at(9))}, {"$[-1]", input(at(-1))}, {"$[-10]", input(at(-10))}, {"$[2147483647]", input(at(2147483647))}, {"$[-2147483647]", input(at(-2147483647))}, {"$[2147483639]", input(at(2147483639))}, {"$[999999999]", input(at(999999999))}, {"$[214748364][1999999999]", input(at(214748364), at(1999999999))},
		{"$['']", input(name(""))}, {"$['']['']", input(name(""), name(""))}, {"$['a']", input(name("a"))}, {"$['0'][0].0", input(name("0"), at(0), name("0"))}, {"$['a b']", input(name("a b"))}, {"$[' ']", input(name(" "))}, {"$['a']['b'].c", input(name("a"), name("b"), name("c"))},
		{`$['\'']`, input(name("'"))}, {`$['\\']`, input(name(`\`))}, {`$['\\\'']`, input(name(`\'`))}, {`$['\'\\']`, input(name(`'\`))}, {`$['\\\\']`, input(name(`\\`))}, {`$['\\n']`, input(name(`\n`))}, {`$['\']']`, input(name(`']`))}, {`$['a\'][\'b']`, input(name("a']['b"))},
		{"$['[']", input(name("["))}, {"$[']']", input(name("]"))}, {"$[']a']", input(name("]a"))}, {"$['$.a[0]']", input(name("$.a[0]"))}, {"$['[\"x\"]']", input(name("[\"x\"]"))},
		{"$['\n\r\t\x00\x1f\x7f']", input(name("\n\r\t\x00\x1f\x7f"))}, {"$['é\U0001f600\ufffd']", input(name("é\U0001f600\ufffd"))}, {"$['\xff']", input(name("\ufffd"))}, {"$['a\xffb\xe2\x82\xc0\x80']", input(name("a\ufffdb\ufffd\ufffd\ufffd\ufffd"))}, {"$['\xed\xa0\x80']", input(name("\ufffd\ufffd\ufffd"))}, {"$['\xc3\\'\xa9']", input(name("\ufffd'\ufffd"))}, {"$['\xc3\\\\']", input(name("\ufffd\\"))}, {"$['\u2028\u00a0']", input(name("\u2028\u00a0"))},
		{"$['" + times(100000, "x") + "'].y", input(name(times(100000, "x")), name("y"))}, {"$." + times(100000, "x") + "[3]", input(name(times(100000, "x")), at(3))},
	} {
		if got, err := path.Parse(x.s); err != nil || !samePath(got, x.want) {
			t.Errorf("Parse(%.80q): %+v, %v", x.s, got, err)
		}
	}
}

// P3.1, P3.3: bytes that can't stand where they stand, and texts that end too early.
func TestParseFaults(t *testing.T) {
	for _, x := range []struct {
		s  string
		at int
	}{
		{"", 0}, {"a", 0}, {"$x", 1}, {"$.", 2}, {"$..a", 2}, {"$[01]", 3}, {"$[-0]", 3}, {"$[2147483648]", 11}, {"$['a]", 5}, {`$['\n']`, 4}, {"$[ 1]", 2}, {"$$$", 2},
		{" ", 0}, {" $", 0}, {".a", 0}, {"[0]", 0}, {"null", 0}, {"@", 0}, {"\x00", 0}, {"\xff", 0}, {"é", 0}, {"\ufeff$", 0}, {"a$", 0}, {"'", 0}, {"\\$", 0},
		{"$ ", 1}, {"$a", 1}, {"$0", 1}, {"$'", 1}, {"$]", 1}, {"$\n", 1}, {"$\x00", 1}, {"$\xff", 1}, {"$-", 1}, {"$_", 1}, {"$$ ", 2}, {"$$a", 2}, {"$$$.a", 2}, {"$$.", 3}, {"$$[", 3}, {"$$..", 3},
		{"$.a.", 4}, {"$.a..b", 4}, {"$. a", 2}, {"$.a ", 3}, {"$.a b", 3}, {"$.[0]", 2}, {"$.['a']", 2}, {"$.$", 2}, {"$.*", 2}, {"$.é", 2}, {"$.aé", 3}, {"$.a\xff", 3}, {"$.\x00", 2}, {"$.a\n", 3}, {"$.a'", 3}, {"$.'a'", 2}, {"$.a]", 3}, {"$.a$", 3}, {"$.a,b", 3}, {"$.a/b", 3}, {"$.a:b", 3}, {"$.a@b", 3}, {"$.a`b", 3}, {"$.a{b", 3}, {"$.a^b", 3}, {"$.a+b", 3}, {"$.a\\", 3}, {"$.\\", 2},
		{"$[", 2}, {"$[]", 2}, {"$[a]", 2}, {"$[.", 2}, {"$[*]", 2}, {"$[+1]", 2}, {"$[\"a\"]", 2}, {"$[[", 2}, {"$[$", 2}, {"$[\x00", 2}, {"$[\xff", 2}, {"$[/]", 2}, {"$[:]", 2}, {"$[\\", 2},
		{"$[0", 3}, {"$[00", 3}, {"$[00]", 3}, {"$[09]", 3}, {"$[0 ]", 3}, {"$[0a]", 3}, {"$[0.5]", 3}, {"$[0'", 3}, {"$[0[", 3}, {"$[0-", 3}, {"$[1", 3}, {"$[1 ]", 3}, {"$[1.", 3}, {"$[1e1]", 3}, {"$[12x]", 4}, {"$[12-]", 4}, {"$[1:2]", 3}, {"$[1,2]", 3}, {"$[1/]", 3}, {"$[1'", 3}, {"$[10", 4}, {"$[1]]", 4}, {"$[1]1", 4}, {"$[1] ", 4}, {"$[1]$", 4}, {"$[1]'", 4}, {"$[0]x", 4}, {"$[0][", 5}, {"$[0].", 5}, {"$[0]['", 6},
		{"$[-", 3}, {"$[-]", 3}, {"$[--1]", 3}, {"$[-a]", 3}, {"$[- 1]", 3}, {"$[-0", 3}, {"$[-01]", 3}, {"$[-00]", 3}, {"$[-1", 4}, {"$[-1x", 4}, {"$[-1-", 4}, {"$[-10", 5}, {"$[-'", 3}, {"$[-\xff", 3}, {"$[1-]", 3},
		{"$[2147483648", 11}, {"$[2147483649]", 11}, {"$[21474836470]", 12}, {"$[21474836470", 12}, {"$[2147483647", 12}, {"$[2147483650]", 11}, {"$[3000000000]", 11}, {"$[9999999999]", 11}, {"$[9999999999x", 11}, {"$[10000000000]", 12}, {"$[99999999999999999999999]", 11}, {"$[1" + times(50, "0") + "]", 12}, {"$[-2147483648]", 12}, {"$[-21474836470]", 13}, {"$[-3000000000]", 12}, {"$[-9223372036854775808]", 12}, {"$[18446744073709551617]", 12}, {"$[4294967296]", 11},
		{"$['", 3}, {"$['a", 4}, {"$['a'", 5}, {"$['a'x", 5}, {"$['a' ]", 5}, {"$['a''", 5}, {"$['a'']", 5}, {"$['a'b']", 5}, {"$[''", 4}, {"$['']x", 5}, {"$['']'", 5}, {"$['''", 4}, {"$['''']", 4}, {"$['a',", 5}, {"$['a'\\", 5}, {"$['a'[", 5}, {"$['a'\xff", 5}, {"$['\xff", 4}, {"$['é", 5}, {"$['\xe2\x82", 5}, {"$['\xe2'x", 5}, {"$['a']b", 6}, {"$['a'] ", 6}, {"$[ 'a']", 2}, {"$['a']]", 6},
		{`$['\`, 4}, {`$['\x']`, 4}, {`$['\"']`, 4}, {`$['\ ']`, 4}, {`$['\]`, 4}, {`$['\u0061']`, 4}, {"$['\\\xff']", 4}, {"$['\\é']", 4}, {"$['\\\n']", 4}, {`$['a\`, 5}, {`$['ab\q`, 6}, {`$['\']`, 6}, {`$['\'`, 5}, {`$['\\`, 5}, {`$['\\\`, 6}, {`$['\\\n`, 6}, {`$['\\\']`, 8}, {`$['\'\q`, 6}, {`$['\\'x`, 6},
		{"$['" + times(100000, "x"), 100003}, {"$." + times(100000, "x") + "!", 100002},
	} {
		refuses(t, x.s, x.at)
	}
}

// P3.1: at most MaxSteps steps, whatever they are; one more is at fault where it begins, whether or not it is one.
func TestParseManySteps(t *testing.T) {
	for _, begin := range []string{"$", "$$"} {
		for _, one := range []string{".a", "[0]", "[-12]", "['']", `['\'x']`} {
			s := begin + times(api.MaxSteps, one)
			if p, err := path.Parse(s); err != nil || len(p.Steps) != 64 || p.Context != (begin == "$$") {
				t.Errorf("Parse of 64 times %s: %v", one, err)
			}
			for _, more := range []string{".a", "[0]", "['a']", ".", "[", "[x", "!", " ", "]", "'", "$", "\xff", ".a.a", "[0][0]", times(64, one)} {
				refuses(t, s+more, len(s))
			}
			short := begin + times(api.MaxSteps-1, one)
			refuses(t, short+".", len(short)+1)
			refuses(t, short+"[x", len(short)+1)
			refuses(t, short+"['", len(short)+2)
		}
	}
}

var whole = regexp.MustCompile(`^\$\$?((\.[A-Za-z0-9_-]+|\['([^'\\]|\\'|\\\\)*'\]|\[(0|-?[1-9][0-9]*)\])*)$`)
var pieces = regexp.MustCompile(`\.[A-Za-z0-9_-]+|\['([^'\\]|\\'|\\\\)*'\]|\[(0|-?[1-9][0-9]*)\]`)

// isPath tells by a regular expression whether s is the text of a path.
func isPath(s string) bool {
	parts := whole.FindStringSubmatch(s)
	if parts == nil {
		return false
	}
	steps := pieces.FindAllStringSubmatch(parts[1], -1)
	for _, step := range steps {
		if step[2] == "" {
			continue
		}
		if n, err := strconv.Atoi(step[2]); err != nil || n > math.MaxInt32 || n < -math.MaxInt32 {
			return false
		}
	}
	return len(steps) <= 64
}

// goesOn tells whether some path's text begins with s: if so, one of these ends makes it one.
func goesOn(s string) bool {
	for _, end := range []string{"", "$", "a", "]", "1]", "']", `\']`} {
		if isPath(s + end) {
			return true
		}
	}
	return false
}

// holdsAgainst asks of s what the regular expression says of it and of its beginnings.
func holdsAgainst(t *testing.T, s string) {
	t.Helper()
	p, err := path.Parse(s)
	if isPath(s) != (err == nil) {
		t.Fatalf("Parse(%q): %v, %v", s, p, err)
	}
	if err == nil {
		return
	}
	n := 0
	for n < len(s) && goesOn(s[:n+1]) {
		n++
	}
	if f, ok := err.(*api.Fault); !ok || f.At != n {
		t.Fatalf("Parse(%q): %v, want a fault at %d", s, err, n)
	}
}

// P3.1: all short texts of these pieces against the regular expression.
func TestParseShortTexts(t *testing.T) {
	letters := []string{"$", ".", "[", "]", "'", `\`, "-", "0", "1", "a", " ", "\xff"}
	var try func(s string, more int)
	try = func(s string, more int) {
		holdsAgainst(t, s)
		if more == 0 {
			return
		}
		for _, letter := range letters {
			try(s+letter, more-1)
		}
	}
	try("", 2)
	try("$", 3)
	try("$.", 3)
	try("$[", 3)
	try("$[-", 3)
	try("$['", 4)
	try("$[214748364", 2)
	try("$[-214748364", 2)
	try("$"+times(63, ".a"), 3)
}

// P3.1: long texts, whole and spoiled.
func TestParseSpoiledTexts(t *testing.T) {
	r := newRand(1)
	for range 3000 {
		s := path.Text(anyPath(r))
		holdsAgainst(t, s)
		if s == "" {
			continue
		}
		i := r.Intn(len(s))
		letter := []string{"$", ".", "[", "]", "'", `\`, "-", "0", "7", "a", " ", "\xff", "é", "[0]", "['']"}[r.Intn(15)]
		holdsAgainst(t, s[:i])
		holdsAgainst(t, s[:i]+s[i+1:])
		holdsAgainst(t, s[:i]+letter+s[i:])
		holdsAgainst(t, s[:i]+letter+s[i+1:])
	}
}

// P3.4
func TestText(t *testing.T) {
	many := input()
	for range 200 {
		many.Steps = append(many.Steps, at(-5), name("b"))
	}
	for _, x := range []struct {
		p    api.Path
		want string
	}{
		{input(), "$"}, {api.Path{}, "$"}, {context(), "$$"}, {api.Path{Context: true}, "$$"}, {api.Path{Nothing: true}, ""}, {nothing(), ""},
		{input(name("a"), name("b-c"), at(-1)), "$.a.b-c[-1]"}, {input(name("a"), name("it's")), `$.a['it\'s']`}, {context(name("Execution")), "$$.Execution"},
		{input(name("A"), name("Z"), name("a"), name("z"), name("0"), name("9"), name("_"), name("-")), "$.A.Z.a.z.0.9._.-"}, {input(name("")), "$['']"}, {input(name("a"), name(""), name("b")), "$.a[''].b"},
		{input(name("a.b")), "$['a.b']"}, {input(name(" a")), "$[' a']"}, {input(name("a ")), "$['a ']"}, {input(name("@")), "$['@']"}, {input(name("[")), "$['[']"}, {input(name("`")), "$['`']"}, {input(name("{")), "$['{']"}, {input(name("/")), "$['/']"}, {input(name(":")), "$[':']"}, {input(name("^")), "$['^']"}, {input(name(",")), "$[',']"}, {input(name("\x7f")), "$['\x7f']"}, {input(name("\x00\n")), "$['\x00\n']"}, {input(name("é")), "$['é']"}, {input(name("aé")), "$['aé']"}, {input(name("\"")), `$['"']`},
		{input(name(`\`)), `$['\\']`}, {input(name(`'`)), `$['\'']`}, {input(name(`\'`)), `$['\\\'']`}, {input(name(`'\'`)), `$['\'\\\'']`}, {input(name(`']`)), `$['\']']`}, {input(name(`\n`)), `$['\\n']`},
		{input(name("\xff")), "$['\ufffd']"}, {input(name("a\x80\xe2\x82z")), "$['a\ufffd\ufffd\ufffdz']"}, {input(name("\xc3'")), "$['\ufffd\\'']"}, {input(name("\ufffd")), "$['\ufffd']"},
		{input(at(0)), "$[0]"}, {input(at(7), at(-7), at(10)), "$[7][-7][10]"}, {input(at(math.MaxInt32), at(math.MaxInt32+1)), "$[2147483647][2147483648]"}, {input(at(math.MaxInt), at(math.MinInt)), "$[9223372036854775807][-9223372036854775808]"},
		{input(api.Step{Name: "a", Place: 3}), "$.a"}, {input(api.Step{Name: "a", Place: 3, IsAt: true}), "$[3]"}, {many, "$" + times(200, "[-5].b")},
	} {
		if got := path.Text(x.p); got != x.want {
			t.Errorf("Text(%+v): %q, want %q", x.p, got, x.want)
		}
	}
}

// P3.3, P3.4: of each byte whether it is plain, in a name alone and behind others.
func TestPlainNames(t *testing.T) {
	for b := range 128 {
		c := string(rune(b))
		plain := b >= 'a' && b <= 'z' || b >= 'A' && b <= 'Z' || b >= '0' && b <= '9' || b == '_' || b == '-'
		if got := strings.HasPrefix(path.Text(input(name(c))), "$."); got != plain {
			t.Errorf("%q: plain: %v", c, got)
		}
		if got := strings.HasPrefix(path.Text(input(name("a"+c+"9"))), "$."); got != plain {
			t.Errorf("%q between others: plain: %v", c, got)
		}
		p, err := path.Parse("$." + c)
		if (err == nil) != plain || plain && !samePath(p, input(name(c))) {
			t.Errorf("Parse of a point and %q: %v, %v", c, p, err)
		}
		if !plain {
			refuses(t, "$."+c, 2)
		}
	}
}

func ExampleText() {
	p, _ := path.Parse(`$['a']['it\'s'][-1]`)
	fmt.Println(path.Text(p))
	// Output: $.a['it\'s'][-1]
}
