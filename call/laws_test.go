package call_test

import (
	"fmt"
	"math/rand"
	"regexp"
	"strings"
	"testing"

	"voyage/api"
	"voyage/call"
	"voyage/dec"
	"voyage/json"
	"voyage/path"
)

func newRand(seed int64) *rand.Rand { return rand.New(rand.NewSource(seed)) }

// oneOf picks one of these.
func oneOf[T any](r *rand.Rand, items ...T) T { return items[r.Intn(len(items))] }

// evalFault gives the fault of a text that is no call; none of one that can't be reckoned.
func evalFault(s string) (api.Value, int, error) {
	v, err := call.Eval(s, api.Value{}, api.Value{})
	if fault, ok := err.(*api.Fault); ok {
		return v, fault.At, fault.Err
	}
	return v, 0, nil
}

// The tokens of a call.
var (
	headToken   = regexp.MustCompile(`^States\.`)
	nameToken   = regexp.MustCompile(`^[A-Za-z]*`)
	gapToken    = regexp.MustCompile(`^[ \t\n\r]*`)
	textToken   = regexp.MustCompile(`(?s)^'(?:[^'\\{}]|\{\}|\\['\\{}])*`)
	numberToken = regexp.MustCompile(`^[-0-9][-+.eE0-9]*`)
	wordToken   = regexp.MustCompile(`^(?:null|true|false)`)
	pathToken   = regexp.MustCompile(`(?s)^\$(?:\['(?:[^'\\]|\\.)*(?:'|\\?$)|[^ \t\n\r,)])*`)
	slotToken   = regexp.MustCompile(`\\.|\{\}`)
)

// counts is how many arguments each function takes; -1: any number, as many as that stand behind.
var counts = map[string]int{"ArrayPartition": 2, "ArrayContains": 2, "ArrayGetItem": 2, "ArrayLength": 1, "ArrayUnique": 1, "StringSplit": 2, "StringToJson": 1, "JsonToString": 1, "JsonMerge": 2, "MathAdd": 2, "Array": -1, "Format": -1}

// stands tells what is wrong with a text by what its tokens are.
type stands struct {
	s     string
	fault error
	at    int
}

// wrong notes a fault, and tells that there is one.
func (c *stands) wrong(at int, err error) (int, bool) {
	c.fault, c.at = err, at
	return 0, false
}

// is tells whether this stands at a place.
func (c *stands) is(at int, s string) bool { return strings.HasPrefix(c.s[at:], s) }

// size is how many bytes of this token stand at a place. Bytes beyond ASCII, all of which stand in texts and names alike, are one byte each.
func (c *stands) size(at int, token *regexp.Regexp) int {
	ascii := []byte(c.s[at:])
	for i, b := range ascii {
		if b >= 0x80 {
			ascii[i] = 1
		}
	}
	return len(token.Find(ascii))
}

// call gives the place behind a call.
func (c *stands) call(at, within int) (int, bool) {
	head, first := at, at
	if c.size(at, headToken) == 0 {
		return c.wrong(at, api.ErrDue)
	}
	at += 7
	if within >= 64 {
		return c.wrong(head, api.ErrDeep)
	}
	name := c.s[at : at+c.size(at, nameToken)]
	at += len(name)
	count, known := counts[name]
	switch {
	case name == "":
		return c.wrong(at, api.ErrDue)
	case !known:
		return c.wrong(head, api.ErrCall)
	case !c.is(at, "("):
		return c.wrong(at, api.ErrDue)
	}
	n := 0
	for end := false; !end; {
		at++
		at += c.size(at, gapToken)
		if n == 0 && c.is(at, ")") {
			break
		}
		if n == 0 {
			first = at
		}
		var ok bool
		if at, ok = c.argument(at, within); !ok {
			return 0, false
		}
		n++
		at += c.size(at, gapToken)
		if end = c.is(at, ")"); !end && !c.is(at, ",") {
			return c.wrong(at, api.ErrDue)
		}
	}
	if name == "Format" {
		slots := -1
		if c.is(first, "'") {
			for _, m := range slotToken.FindAllString(c.s[first:first+c.size(first, textToken)], -1) {
				slots += strings.Count(m, "{}")
			}
			slots++
		}
		if n == 0 || slots != n-1 {
			return c.wrong(head, api.ErrCall)
		}
	} else if count >= 0 && n != count {
		return c.wrong(head, api.ErrCall)
	}
	return at + 1, true
}

// argument gives the place behind an argument.
func (c *stands) argument(at, within int) (int, bool) {
	if n := c.size(at, textToken); n > 0 {
		if !c.is(at+n, "'") {
			return c.wrong(at+n, api.ErrText)
		}
		return at + n + 1, true
	}
	if n := c.size(at, numberToken); n > 0 {
		if _, err := dec.Parse(c.s[at : at+n]); err != nil {
			return c.wrong(at, err)
		}
		return at + n, true
	}
	if n := c.size(at, pathToken); n > 0 {
		if _, err := path.Parse(c.s[at : at+n]); err != nil {
			return c.wrong(at+err.(*api.Fault).At, api.ErrPath)
		}
		return at + n, true
	}
	if n := c.size(at, wordToken); n > 0 {
		return at + n, true
	}
	return c.call(at, within+1)
}

// holds wants of a text the fault that its tokens have.
func holds(t *testing.T, s string) bool {
	t.Helper()
	c := stands{s: s}
	if end, ok := c.call(0, 0); ok && end < len(s) {
		c.wrong(end, api.ErrDue)
	}
	got, at, err := evalFault(s)
	if err != c.fault || at != c.at || err != nil && !identical(got, api.Value{}) {
		t.Fatalf("Eval(%q): %v at %d, want %v at %d", s, err, at, c.fault, c.at)
	}
	return err == nil
}

// P5.2: all short rows of a few pieces.
func TestFaultsOfShortTexts(t *testing.T) {
	pieces := []string{"", "'", "{}", "{", "}", `\`, "$", ".a", "['", "']", "1", "-", "e", ",", ")", "(", " ", "null", "tru", "States.", "Array(", "Format(", "ArrayLength(", "x", "\xff"}
	calls := 0
	for _, begin := range []string{"", "States.Array(", "States.Format('{}',", "States.MathAdd("} {
		for i := range len(pieces) * len(pieces) * len(pieces) {
			s := begin + pieces[i%len(pieces)] + pieces[i/len(pieces)%len(pieces)] + pieces[i/len(pieces)/len(pieces)]
			for _, end := range []string{"", ")", "))", ",1)", "')"} {
				if holds(t, s+end) {
					calls++
				}
			}
		}
	}
	if calls < 1000 {
		t.Errorf("too few calls: %d", calls)
	}
}

// anyText is a text in quotes.
func anyText(r *rand.Rand) string {
	out := ""
	for range r.Intn(5) {
		out += oneOf(r, "a", "b ", ",", ")", `\'`, `\\`, `\{`, `\}`, "{}", "\xff", "é", "$.a", "\n")
	}
	return "'" + out + "'"
}

// anyArgument may be of any kind.
func anyArgument(r *rand.Rand, deep int) string {
	switch r.Intn(6) {
	case 0:
		return anyText(r)
	case 1:
		return oneOf(r, "0", "1", "-1", "2", "1.50", "1e30", "-0", "12e-1")
	case 2:
		return oneOf(r, "null", "true", "false")
	case 3:
		if deep > 0 {
			return anyCall(r, deep-1)
		}
	}
	return oneOf(r, "$", "$$", "$.l", "$.o", "$.t", "$.n", "$.l[0]", "$['a b,)']", `$$['it\'s']`, "$.o.l", "$.l[-1]", "$.z")
}

// anyCall is a call; its arguments may be of the wrong kinds.
func anyCall(r *rand.Rand, deep int) string {
	gap := func() string { return oneOf(r, "", "", "", " ", "\t", "\r\n") }
	name := oneOf(r, "Array", "Array", "Format", "ArrayPartition", "ArrayContains", "ArrayGetItem", "ArrayLength", "ArrayUnique", "StringSplit", "StringToJson", "JsonToString", "JsonMerge", "MathAdd")
	n := counts[name]
	if n < 0 {
		n = r.Intn(4)
	}
	var args []string
	if name == "Format" {
		args = append(args, "'"+strings.Repeat(oneOf(r, "{}", "a{}", `\{\}{}\'`), n)+"'")
	}
	for range n {
		args = append(args, anyArgument(r, deep))
	}
	return "States." + name + "(" + gap() + strings.Join(args, gap()+","+gap()) + gap() + ")"
}

// P5.2: calls, and calls that are spoiled somewhere.
func TestFaultsOfSpoiledCalls(t *testing.T) {
	r := newRand(1)
	calls := 0
	for range 30000 {
		s := anyCall(r, 3)
		if !holds(t, s) {
			t.Fatalf("no call: %q", s)
		}
		for range 1 + r.Intn(2) {
			i := r.Intn(len(s) + 1)
			j := min(len(s), i+r.Intn(3))
			s = s[:i] + oneOf(r, "", "", "'", "{", "}", `\`, "$", "[", "]", "(", ")", ",", " ", "1", "e", ".", "x", "S", "\x00", "\xc3", "{}", "States.Array()", "States.No(") + s[j:]
		}
		if holds(t, s) {
			calls++
		}
	}
	if calls < 1000 || calls > 25000 {
		t.Errorf("spoiled calls that are calls: %d", calls)
	}
}

// anyInput has what anyArgument's paths ask for.
func anyInput(r *rand.Rand) api.Value {
	v := func() api.Value {
		return oneOf(r, api.Value{}, number("10", 0), number("2", 0), number("15", -1), text("a-b"), text("[1]"), text("\xff"), list(), object(), everything(9), api.Value{Kind: api.Truth, Truth: true})
	}
	l := list()
	for range r.Intn(5) {
		l.List = append(l.List, v())
	}
	return object(field("t", v()), field("n", v()), field("l", l), field("o", object(field("x", v()), field("l", l), field("t", v()))), field("a b,)", v()), field("it's", v()))
}

// P5.4: a call whose argument is another call tells what it tells where a path leads to what the other one told; what the other one can't tell, the whole can't.
func TestCallsInCalls(t *testing.T) {
	r := newRand(2)
	told, not := 0, 0
	for range 30000 {
		input, ctx := anyInput(r), anyInput(r)
		inner := anyCall(r, 2)
		outer := oneOf(r, "States.Array(%s)", "States.Array('x', %s ,1)", "States.Format('<{}>', %s)", "States.ArrayPartition(%s, 2)", "States.ArrayContains(%s, 1)", "States.ArrayGetItem(%s,0)", "States.ArrayGetItem($.l,%s)", "States.ArrayLength(%s)", "States.ArrayUnique(%s)", "States.StringSplit(%s,'-')", "States.StringSplit('a{}b', %s)", "States.StringToJson(%s)", "States.JsonToString(%s)", "States.JsonMerge(%s, $.o)", "States.JsonMerge($.o, %s)", "States.MathAdd(%s, 1)")
		got, err := call.Eval(fmt.Sprintf(outer, inner), input, ctx)
		part, wrong := call.Eval(inner, input, ctx)
		if wrong != nil {
			if err != wrong || !identical(got, api.Value{}) {
				t.Fatalf("%s in %s: %s, %v, want %v", inner, outer, json.Print(got), err, wrong)
			}
			not++
			continue
		}
		input.Fields = append(input.Fields, field("there", part))
		want, wrong := call.Eval(fmt.Sprintf(outer, "$.there"), input, ctx)
		if err != wrong || !identical(got, want) || !identical(got, json.Norm(got)) {
			t.Fatalf("%s in %s: %s, %v, want %s, %v", inner, outer, json.Print(got), err, json.Print(want), wrong)
		}
		told++
	}
	if told < 5000 || not < 5000 {
		t.Errorf("too few: %d, %d", told, not)
	}
}

// P5.3: what is written, and what a path leads to, is the same.
func TestWrittenOrLed(t *testing.T) {
	r := newRand(3)
	for range 10000 {
		var args, paths []string
		input := list()
		for i := range 1 + r.Intn(3) {
			arg := oneOf(r, "1", "-2.50", "0", "null", "true", "false", `'a'`, `'{}'`, `'\''`, "'\xff'", "''", `'-'`, `'\{"a":1\}'`)
			alone, err := call.Eval("States.Array("+arg+")", api.Value{}, api.Value{})
			if err != nil || len(alone.List) != 1 {
				t.Fatalf("%s: %v", arg, err)
			}
			args, paths, input.List = append(args, arg), append(paths, fmt.Sprintf("$[%d]", i)), append(input.List, alone.List[0])
		}
		name := oneOf(r, "Array", "ArrayContains", "StringSplit", "StringToJson", "JsonToString", "MathAdd", "ArrayLength", "JsonMerge")
		got, err := call.Eval("States."+name+"("+strings.Join(args, ",")+")", input, api.Value{})
		want, wrong := call.Eval("States."+name+"("+strings.Join(paths, ", ")+")", input, api.Value{})
		if fmt.Sprint(err) != fmt.Sprint(wrong) || !identical(got, want) {
			t.Fatalf("%s of %q: %s, %v, by paths %s, %v", name, args, json.Print(got), err, json.Print(want), wrong)
		}
	}
}

// lists are all lists of a value, with their spare room.
func lists(v api.Value, values *[][]api.Value, fields *[][]api.Field) {
	*values = append(*values, v.List[:cap(v.List)])
	*fields = append(*fields, v.Fields[:cap(v.Fields)])
	for _, e := range v.List {
		lists(e, values, fields)
	}
	for _, f := range v.Fields {
		lists(f.Value, values, fields)
	}
}

// apart tells whether no two lists of these values share an element.
func apart(vs ...api.Value) bool {
	var values [][]api.Value
	var fields [][]api.Field
	for _, v := range vs {
		lists(v, &values, &fields)
	}
	seenValue, seenField := map[*api.Value]bool{}, map[*api.Field]bool{}
	for _, l := range values {
		for i := range l {
			if seenValue[&l[i]] {
				return false
			}
			seenValue[&l[i]] = true
		}
	}
	for _, l := range fields {
		for i := range l {
			if seenField[&l[i]] {
				return false
			}
			seenField[&l[i]] = true
		}
	}
	return true
}

// R3, R4: what goes in stays as it is, and what comes out is its owner's; asked again, the answer is the same.
func TestNewMemory(t *testing.T) {
	r := newRand(4)
	for range 10000 {
		s, input, ctx := anyCall(r, 3), json.Norm(anyInput(r)), json.Norm(anyInput(r))
		before := fmt.Sprintf("%#v %#v", input, ctx)
		one, err := call.Eval(s, input, ctx)
		two, again := call.Eval(s, input, ctx)
		if fmt.Sprintf("%#v %#v", input, ctx) != before {
			t.Fatalf("%s changed %s", s, before)
		}
		if err != again || !identical(one, two) || !apart(input, ctx, one, two) {
			t.Fatalf("%s: %s, %v, again %s, %v", s, json.Print(one), err, json.Print(two), again)
		}
	}
	input := object(field("l", list(list(text("x")), object(field("k", list())))))
	for _, s := range []string{"States.Array($.l, $.l)", "States.ArrayPartition($.l, 1)", "States.ArrayUnique($.l)", "States.ArrayGetItem($.l, 1)", "States.JsonMerge($, $)"} {
		if got, err := call.Eval(s, input, input); err != nil || !apart(input, got) {
			t.Errorf("%s: %s, %v", s, json.Print(got), err)
		}
	}
}
