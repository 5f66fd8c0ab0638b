package call_test

import (
	"fmt"
	"slices"
	"strings"
	"testing"

	"voyage/api"
	"voyage/call"
	"voyage/json"
)

func text(s string) api.Value               { return api.Value{Kind: api.Text, Text: s} }
func list(v ...api.Value) api.Value         { return api.Value{Kind: api.List, List: v} }
func object(f ...api.Field) api.Value       { return api.Value{Kind: api.Object, Fields: f} }
func field(n string, v api.Value) api.Field { return api.Field{Name: n, Value: v} }

// number is told as it stands: no one form is made of it.
func number(digits string, exp int) api.Value {
	return api.Value{Kind: api.Number, Num: api.Dec{Digits: digits, Exp: exp}}
}

// sized is a text whose own text has n bytes.
func sized(n int) api.Value { return text(strings.Repeat("x", n-len(`""`))) }

// nest puts v into so many lists.
func nest(v api.Value, times int) api.Value {
	for range times {
		v = list(v)
	}
	return v
}

// everything has a mark in each field, so that of what its kind doesn't name nothing may count.
func everything(kind int) api.Value {
	return api.Value{Kind: kind, Truth: true, Num: api.Dec{Neg: true, Digits: "070", Exp: 2}, Text: "t\xff", List: []api.Value{{Kind: 9, Text: "x"}}, Fields: []api.Field{field("f\x80", text("\xc0"))}}
}

// identical holds two values against each other field by field, those too that their kinds don't name. A nil list and an empty one are the same.
func identical(a, b api.Value) bool {
	return a.Kind == b.Kind && a.Truth == b.Truth && a.Num == b.Num && a.Text == b.Text && slices.EqualFunc(a.List, b.List, identical) &&
		slices.EqualFunc(a.Fields, b.Fields, func(x, y api.Field) bool { return x.Name == y.Name && identical(x.Value, y.Value) })
}

// value is that of a text.
func value(t *testing.T, s string) api.Value {
	t.Helper()
	v, err := json.Parse(s)
	if err != nil {
		t.Fatalf("%s: %v", s, err)
	}
	return v
}

const (
	exampleInput   = `{"l": [1, 2, 2, "a"], "t": "a-b--c", "o": {"x": 1}}`
	exampleContext = `{"x": "y", "n": -3, "e": [], "m": {}}`
)

// tells wants what a call tells, or an error, itself; beside one, the zero value.
func tells(t *testing.T, s string, input, want api.Value, wrong error) {
	t.Helper()
	got, err := call.Eval(s, input, value(t, exampleContext))
	if err != wrong || !identical(got, want) {
		t.Errorf("Eval(%.200q): %.200q, %v, want %.200q, %v", s, json.Print(got), err, json.Print(want), wrong)
	}
}

// refuses wants a fault, itself.
func refuses(t *testing.T, s string, at int, wrong error) {
	t.Helper()
	got, err := call.Eval(s, api.Value{}, api.Value{})
	fault, ok := err.(*api.Fault)
	if !ok || *fault != (api.Fault{At: at, Err: wrong}) || !identical(got, api.Value{}) {
		t.Errorf("Eval(%.200q): %.200q, %v, want %v at %d", s, json.Print(got), err, wrong, at)
	}
}

// P5.1
func TestIs(t *testing.T) {
	for s, want := range map[string]bool{
		"States.": true, "States.Array()": true, "States.x y z": true, "States..": true, "States.\xff": true, "States.States.": true,
		"": false, "S": false, "States": false, "states.Array()": false, "STATES.": false, " States.": false, "States ": false, "States(": false, "$.States.": false, "'States.'": false, "Array()": false, "tates.": false,
	} {
		if got := call.Is(s); got != want {
			t.Errorf("Is(%q): %v", s, got)
		}
	}
}

// P5.3: what each function tells.
func TestEval(t *testing.T) {
	for s, want := range map[string]string{
		`States.Format('{} is \{{}\}', 'it', $.l[0])`: `"it is {1}"`, `States.Format('')`: `""`, `States.Format('a\'\\\{\}')`: `"a'\\{}"`, `States.Format('{}', 'x')`: `"x"`, `States.Format('{}{}{}', 1, 'b', null)`: `"1bnull"`, `States.Format('<{}>', $.o)`: `"<{\"x\":1}>"`, `States.Format('{} {}', $.l, true)`: `"[1,2,2,\"a\"] true"`, `States.Format('{}', '{}')`: `"{}"`, `States.Format('{}{}', '{}', 'x')`: `"{}x"`, `States.Format('{}', 15.0)`: `"15"`, `States.Format('{}', 10)`: `"1e1"`, `States.Format('{}', States.Format('[{}]', 'q'))`: `"[q]"`, `States.Format('\{\}{}\{\}', false)`: `"{}false{}"`, `States.Format('$.t')`: `"$.t"`,
		`States.Array( )`: `[]`, `States.Array()`: `[]`, `States.Array(1)`: `[1]`, `States.Array(1,'a',null,true,false,$.o,States.Array())`: `[1,"a",null,true,false,{"x":1},[]]`, "States.Array( \t\n\r1\t,\r\n -2 ,$.l[0] , 'x' )": `[1,-2,1,"x"]`, `States.Array('{}', '\{', 'a b,c)')`: `["{}","{","a b,c)"]`, `States.Array(-0, 1.50, 1e3, 0.0e5)`: `[0,15e-1,1e3,0]`, `States.Array($$.x, $$)`: `["y",{"e":[],"m":{},"n":-3,"x":"y"}]`,
		`States.ArrayPartition($.l, 3)`: `[[1,2,2],["a"]]`, `States.ArrayPartition(States.Array(1), 1e30)`: `[[1]]`, `States.ArrayPartition($.l, 1)`: `[[1],[2],[2],["a"]]`, `States.ArrayPartition($.l, 2)`: `[[1,2],[2,"a"]]`, `States.ArrayPartition($.l, 4)`: `[[1,2,2,"a"]]`, `States.ArrayPartition($.l, 5)`: `[[1,2,2,"a"]]`, `States.ArrayPartition($.l, 9223372036854775807)`: `[[1,2,2,"a"]]`, `States.ArrayPartition($.l, 9223372036854775808)`: `[[1,2,2,"a"]]`, `States.ArrayPartition($.l, 1e9999)`: `[[1,2,2,"a"]]`, `States.ArrayPartition($$.e, 1)`: `[]`, `States.ArrayPartition($$.e, 1e30)`: `[]`, `States.ArrayPartition($.l, 30e-1)`: `[[1,2,2],["a"]]`, `States.ArrayPartition($.l, 4294967297)`: `[[1,2,2,"a"]]`,
		`States.ArrayContains($.l,'a')`: `true`, `States.ArrayContains($.l, 2)`: `true`, `States.ArrayContains($.l, 2.0)`: `true`, `States.ArrayContains($.l, '2')`: `false`, `States.ArrayContains($.l, null)`: `false`, `States.ArrayContains($$.e, 1)`: `false`, `States.ArrayContains(States.Array($.o, $.l), $.o)`: `true`, `States.ArrayContains(States.Array($.o, $.l), States.StringToJson('\{"x":10e-1\}'))`: `true`, `States.ArrayContains(States.Array(States.Array(1)), 1)`: `false`, `States.ArrayContains(States.Array(null), null)`: `true`, `States.ArrayContains(States.Array(false), true)`: `false`,
		`States.ArrayGetItem($.l, 0)`: `1`, `States.ArrayGetItem($.l, 3)`: `"a"`, `States.ArrayGetItem($.l, 10e-1)`: `2`, `States.ArrayGetItem($.l, -0)`: `1`, `States.ArrayGetItem(States.Array(null), 0)`: `null`,
		`States.ArrayLength($.l)`: `4`, `States.ArrayLength($$.e)`: `0`, `States.ArrayLength(States.Array(1,2,3,4,5,6,7,8,9,10))`: `1e1`,
		`States.ArrayUnique($.l)`: `[1,2,"a"]`, `States.ArrayUnique($$.e)`: `[]`, `States.ArrayUnique(States.Array(1, '1', 10e-1, null, $.o, States.StringToJson('\{"x":1\}'), 'null', null, 0, -0))`: `[1,"1",null,{"x":1},"null",0]`, `States.ArrayUnique(States.Array('b','a','b','a','c'))`: `["b","a","c"]`,
		`States.StringSplit($.t, '-')`: `["a","b","","c"]`, `States.StringSplit($.t, 'x')`: `["a-b--c"]`, `States.StringSplit($.t, '--')`: `["a-b","c"]`, `States.StringSplit('', 'x')`: `[""]`, `States.StringSplit('aaa', 'aa')`: `["","a"]`, `States.StringSplit('aaaa', 'aa')`: `["","",""]`, `States.StringSplit('-', '-')`: `["",""]`, `States.StringSplit('ab', 'ab')`: `["",""]`, `States.StringSplit('a{}b', '{}')`: `["a","b"]`, `States.StringSplit('a.b', '.')`: `["a","b"]`, `States.StringSplit('aéb', 'é')`: `["a","b"]`, `States.StringSplit('a', 'ab')`: `["a"]`,
		`States.StringToJson('1.50')`: `15e-1`, `States.StringToJson(' [ ] ')`: `[]`, `States.StringToJson('"\\u0061"')`: `"a"`, `States.StringToJson('\{"b":1,"a":\{\}\}')`: `{"a":{},"b":1}`, `States.StringToJson('{}')`: `{}`, `States.StringToJson(States.JsonToString($))`: exampleInput,
		`States.JsonToString($.o)`: `"{\"x\":1}"`, `States.JsonToString('a"')`: `"\"a\\\"\""`, `States.JsonToString(null)`: `"null"`, `States.JsonToString(10.0)`: `"1e1"`, `States.JsonToString($.l)`: `"[1,2,2,\"a\"]"`,
		`States.JsonMerge($.o, States.StringToJson('\{"x":2,"y":[]\}'))`: `{"x":2,"y":[]}`, `States.JsonMerge($.o, $$.m)`: `{"x":1}`, `States.JsonMerge($$.m, $.o)`: `{"x":1}`, `States.JsonMerge($$.m, $$.m)`: `{}`, `States.JsonMerge(States.StringToJson('\{"a":\{"b":1\},"z":null\}'), States.StringToJson('\{"a":\{"c":2\}\}'))`: `{"a":{"c":2},"z":null}`, `States.JsonMerge($.o, States.StringToJson('\{"x":null\}'))`: `{"x":null}`,
		`States.MathAdd(States.ArrayGetItem($.l, 1), -25e-1)`: `-5e-1`, `States.MathAdd(1, -1)`: `0`, `States.MathAdd(5, 5)`: `1e1`, `States.MathAdd($$.n, 3.5)`: `5e-1`, `States.MathAdd(4e9999, 5e9999)`: `9e9999`, `States.MathAdd(0.1, 0.2)`: `3e-1`,
		`States.ArrayLength($['l'])`: `4`, `States.JsonToString($['o']['x'])`: `"1"`,
	} {
		tells(t, s, value(t, exampleInput), value(t, want), nil)
	}
}

// P5.2: what a path's bytes are: gaps, commas and brackets stand between `['` and the quote that ends them.
func TestPathsInCalls(t *testing.T) {
	names := []string{"a b", "a,b", "a)b", "\t\n\r", `it's`, `\`, `\'`, "['", "']", "a'],['b", "", "é", "{}", `a\', `, "\xff"}
	for _, name := range names {
		quoted := "$['" + strings.NewReplacer(`\`, `\\`, `'`, `\'`).Replace(name) + "']"
		in := object(field(name, text("found")), field("o", object(field(name, list(text("deep"))))), field("l", list(text("first"))))
		tells(t, "States.Array("+quoted+")", in, list(text("found")), nil)
		tells(t, "States.Array("+quoted+" ,$.l[0])", in, list(text("found"), text("first")), nil)
		tells(t, "States.Array($.o"+quoted[1:]+"[-1], "+quoted+",'x' )", in, list(text("deep"), text("found"), text("x")), nil)
		tells(t, "States.Array($$"+quoted[1:]+")", in, api.Value{}, api.ErrPath)
	}
}

// P5.3: what can't be reckoned.
func TestNotReckoned(t *testing.T) {
	for s, want := range map[string]error{
		`States.MathAdd($.t, 1)`: api.ErrKind, `States.ArrayGetItem($.l, 4)`: api.ErrKind, `States.MathAdd(5e9999, 5e9999)`: api.ErrKind, `States.ArrayLength($.z)`: api.ErrPath, `States.StringSplit($.t, '')`: api.ErrKind, `States.ArrayPartition($.o, 1e30)`: api.ErrKind,
		`States.ArrayPartition($.l, 0)`: api.ErrKind, `States.ArrayPartition($.l, -1)`: api.ErrKind, `States.ArrayPartition($.l, 1.5)`: api.ErrKind, `States.ArrayPartition($.l, 0.5)`: api.ErrKind, `States.ArrayPartition($.l, -1e30)`: api.ErrKind, `States.ArrayPartition($$.e, 0)`: api.ErrKind, `States.ArrayPartition($.l, '1')`: api.ErrKind, `States.ArrayPartition($.l, null)`: api.ErrKind, `States.ArrayPartition($.t, 1)`: api.ErrKind, `States.ArrayPartition($.l, 1e-9999)`: api.ErrKind,
		`States.ArrayContains($.o, 1)`: api.ErrKind, `States.ArrayContains('a', 'a')`: api.ErrKind, `States.ArrayContains(null, null)`: api.ErrKind,
		`States.ArrayGetItem($.l, -1)`: api.ErrKind, `States.ArrayGetItem($.l, 0.5)`: api.ErrKind, `States.ArrayGetItem($.l, 1e30)`: api.ErrKind, `States.ArrayGetItem($.l, 4294967296)`: api.ErrKind, `States.ArrayGetItem($.l, 18446744073709551616)`: api.ErrKind, `States.ArrayGetItem($$.e, 0)`: api.ErrKind, `States.ArrayGetItem($.l, '0')`: api.ErrKind, `States.ArrayGetItem($.o, 0)`: api.ErrKind, `States.ArrayGetItem($.l, -5e-1)`: api.ErrKind,
		`States.ArrayLength($.o)`: api.ErrKind, `States.ArrayLength('')`: api.ErrKind, `States.ArrayLength(1)`: api.ErrKind, `States.ArrayUnique($.t)`: api.ErrKind, `States.ArrayUnique(true)`: api.ErrKind,
		`States.StringSplit(1, 'a')`: api.ErrKind, `States.StringSplit('a', 1)`: api.ErrKind, `States.StringSplit($.l, 'a')`: api.ErrKind, `States.StringSplit('', '')`: api.ErrKind, `States.StringSplit(null, '')`: api.ErrKind,
		`States.StringToJson('')`: api.ErrKind, `States.StringToJson('x')`: api.ErrKind, `States.StringToJson('1 2')`: api.ErrKind, `States.StringToJson('1e10000')`: api.ErrKind, `States.StringToJson(1)`: api.ErrKind, `States.StringToJson($.o)`: api.ErrKind, `States.StringToJson('\{"a":1,"a":1\}')`: api.ErrKind,
		`States.JsonMerge($.o, $.l)`: api.ErrKind, `States.JsonMerge($.l, $.o)`: api.ErrKind, `States.JsonMerge(null, $.o)`: api.ErrKind, `States.JsonMerge($.o, '{}')`: api.ErrKind,
		`States.MathAdd(1, '1')`: api.ErrKind, `States.MathAdd(true, 1)`: api.ErrKind, `States.MathAdd(null, null)`: api.ErrKind, `States.MathAdd(1, $.l)`: api.ErrKind,
		`States.Array($.z)`: api.ErrPath, `States.Array($.l[4])`: api.ErrPath, `States.Array($$.z)`: api.ErrPath, `States.Format('{}', $.z)`: api.ErrPath, `States.Array(1, 2, States.Array($.t.x))`: api.ErrPath, `States.JsonToString($[0])`: api.ErrPath,
	} {
		tells(t, s, value(t, exampleInput), api.Value{}, want)
	}
}

// P5.3: arguments from the left, each wholly, then the function.
func TestFirstNotReckoned(t *testing.T) {
	in := object(field("l", list()), field("g", sized(600000)))
	for s, want := range map[string]error{
		`States.MathAdd('x', $.z)`: api.ErrPath, `States.ArrayLength($.z)`: api.ErrPath, `States.ArrayGetItem($.l, $.z)`: api.ErrPath, `States.Array(States.ArrayLength('x'), $.z)`: api.ErrKind, `States.Array($.z, States.ArrayLength('x'))`: api.ErrPath, `States.MathAdd(States.ArrayLength(1), $.z)`: api.ErrKind, `States.MathAdd('x', States.ArrayLength($.z))`: api.ErrPath,
		`States.Array(States.Array($.g, $.g), $.z)`: api.ErrLong, `States.Array($.z, States.Array($.g, $.g))`: api.ErrPath, `States.MathAdd('x', States.Array($.g, $.g))`: api.ErrLong, `States.ArrayLength(States.Array($.g, $.g))`: api.ErrLong, `States.Array($.g, $.g, $.z)`: api.ErrPath, `States.Array($.g, $.g, States.ArrayLength(1))`: api.ErrKind, `States.Format('{}{}{}', $.g, $.g, $.z)`: api.ErrPath, `States.Array($.g, $.g)`: api.ErrLong, `States.Format('{}{}', $.g, $.g)`: api.ErrLong,
	} {
		tells(t, s, in, api.Value{}, want)
	}
}

// P5.3: what a call tells must be sound; what it is made of needn't be.
func TestSound(t *testing.T) {
	room := api.MaxText - len(`[]`)
	tells(t, "States.Array($)", sized(room), list(sized(room)), nil)
	tells(t, "States.Array($)", sized(room+1), api.Value{}, api.ErrLong)
	tells(t, "States.Array($, $)", sized(room/2), api.Value{}, api.ErrLong)
	tells(t, "States.Array('"+sized(room).Text+"')", api.Value{}, list(sized(room)), nil)
	tells(t, "States.Array('"+sized(room+1).Text+"')", api.Value{}, api.Value{}, api.ErrLong)
	tells(t, "States.Format('{}', $)", sized(api.MaxText), sized(api.MaxText), nil)
	tells(t, "States.Format('{}', $)", sized(api.MaxText+1), api.Value{}, api.ErrLong)
	tells(t, "States.Format('{}', $)", sized(api.MaxText+3), api.Value{}, api.ErrLong)
	tells(t, "States.Format('x{}', $)", sized(api.MaxText), api.Value{}, api.ErrLong)
	tells(t, "States.Format('{}{}', $, '')", sized(api.MaxText), sized(api.MaxText), nil)
	tells(t, "States.Format('{}', $)", text(strings.Repeat("\n", (api.MaxText-2)/2)), text(strings.Repeat("\n", (api.MaxText-2)/2)), nil)
	tells(t, "States.Format('{}', $)", text(strings.Repeat("\n", api.MaxText/2)), api.Value{}, api.ErrLong)
	tells(t, "States.JsonToString($)", list(sized(api.MaxText-len(`"["\"\""]"`)+len(`""`))), text(`["`+sized(api.MaxText-len(`"["\"\""]"`)+len(`""`)).Text+`"]`), nil)
	tells(t, "States.JsonToString($)", sized(api.MaxText), api.Value{}, api.ErrLong)
	tells(t, "States.StringToJson($)", text("["+strings.Repeat("10,", 300000)+"10]"), api.Value{}, api.ErrLong)
	tells(t, "States.StringToJson($)", text(strings.Repeat(" ", api.MaxText)+"1"), api.Value{}, api.ErrKind)
	tells(t, "States.StringToJson($)", text(strings.Repeat(" ", api.MaxText-1)+"1"), number("1", 0), nil)
	tells(t, "States.StringSplit($, 'x')", sized(400000), api.Value{}, api.ErrLong)
	tells(t, "States.StringSplit($, 'x')", text(strings.Repeat("x", 1<<22)), api.Value{}, api.ErrLong)
	tells(t, "States.StringSplit($, 'x')", text(strings.Repeat("x", (api.MaxText-len(`[""]`))/len(`,""`))), list(slices.Repeat([]api.Value{text("")}, (api.MaxText-len(`[""]`))/len(`,""`)+1)...), nil)
	tells(t, "States.StringSplit($, 'x')", text(strings.Repeat("x", (api.MaxText-len(`[""]`))/len(`,""`)+1)), api.Value{}, api.ErrLong)
	tells(t, "States.ArrayPartition($, 1)", list(slices.Repeat([]api.Value{number("1", 0)}, 300000)...), api.Value{}, api.ErrLong)
	tells(t, "States.JsonMerge($.a, $.b)", object(field("a", object(field("p", sized(600000)))), field("b", object(field("q", sized(600000))))), api.Value{}, api.ErrLong)
	tells(t, "States.JsonMerge($.a, $.b)", object(field("a", object(field("p", sized(600000)))), field("b", object(field("p", sized(600000))))), object(field("p", sized(600000))), nil)

	tells(t, "States.Array($)", nest(text("in"), 63), nest(text("in"), 64), nil)
	tells(t, "States.Array($)", nest(text("in"), 64), api.Value{}, api.ErrLong)
	tells(t, "States.ArrayPartition($, 1)", nest(text("in"), 63), nest(text("in"), 64), nil)
	tells(t, "States.ArrayPartition($, 1)", nest(text("in"), 64), api.Value{}, api.ErrLong)
	tells(t, "States.ArrayGetItem($, 0)", nest(text("in"), 65), nest(text("in"), 64), nil)
	tells(t, "States.ArrayGetItem($, 0)", nest(text("in"), 66), api.Value{}, api.ErrLong)
	tells(t, "States.ArrayLength($)", nest(text("in"), 1000), number("1", 0), nil)
	tells(t, "States.ArrayLength($)", list(sized(api.MaxText+1)), number("1", 0), nil)
	tells(t, "States.ArrayLength($)", nest(text("in"), 1<<16-1), number("1", 0), nil)
}

// R1: however often a path stands in a call, it ends.
func TestManyArguments(t *testing.T) {
	const many = 100
	in := list(sized(600000))
	for _, s := range []string{"States.Array($" + strings.Repeat(",$", many) + "%s)", "States.Format('" + strings.Repeat("{}", many+1) + "{}', $" + strings.Repeat(",$", many) + "%s)"} {
		tells(t, fmt.Sprintf(s, ",$.z"), in, api.Value{}, api.ErrPath)
		tells(t, fmt.Sprintf(s, ",1"), in, api.Value{}, api.ErrLong)
		tells(t, fmt.Sprintf(s, ",States.ArrayLength(1)"), in, api.Value{}, api.ErrKind)
	}
	slots := strings.Repeat("{}", 600000)
	tells(t, "States.Format('"+slots+"'"+strings.Repeat(",''", 600000)+")", in, text(""), nil)
	tells(t, "States.Format('"+slots+"'"+strings.Repeat(",$", 600000)+")", text(""), text(""), nil)
}

// R5: bytes that are no UTF-8, and values that are told in other ways than the one form.
func TestGoesByMeaning(t *testing.T) {
	tells(t, "States.Array('\xff', '\xc3\xa9', '\xe2\x82')", api.Value{}, list(text("\ufffd"), text("é"), text("\ufffd\ufffd")), nil)
	tells(t, "States.Format('\xc3{}\xa9', '')", api.Value{}, text("\ufffd\ufffd"), nil)
	tells(t, "States.Format('{}{}', '\xc3', '\xa9')", api.Value{}, text("\ufffd\ufffd"), nil)
	tells(t, "States.Format('\xc3\xa9{}', 'x')", api.Value{}, text("éx"), nil)
	tells(t, "States.StringSplit('a\xffb\xfec', '\ufffd')", api.Value{}, list(text("a"), text("b"), text("c")), nil)
	tells(t, "States.StringSplit('\xc3\xa9', '\xa9')", api.Value{}, list(text("é")), nil)
	tells(t, "States.ArrayContains($, '\ufffd')", list(text("\x80")), api.Value{Kind: api.Truth, Truth: true}, nil)
	tells(t, "States.ArrayUnique($)", list(everything(9), api.Value{}, text("\xff"), text("\xfe"), number("010", 0), number("1", 1)), list(api.Value{}, text("\ufffd"), number("1", 1)), nil)
	tells(t, "States.JsonMerge($[0], $[1])", list(object(field("\xff", text("a")), field("b", text("b")), field("b", text("c"))), everything(api.Object)), object(field("b", text("b")), field("f\ufffd", text("\ufffd")), field("\ufffd", text("a"))), nil)
	tells(t, "States.ArrayLength($)", everything(api.List), number("1", 0), nil)
	tells(t, "States.ArrayLength($)", everything(api.Object), api.Value{}, api.ErrKind)
	tells(t, "States.ArrayLength($)", everything(9), api.Value{}, api.ErrKind)
	tells(t, "States.Format('{}', $)", everything(-1), text("null"), nil)
	tells(t, "States.Array($, $)", everything(api.Number), list(json.Norm(everything(api.Number)), json.Norm(everything(api.Number))), nil)
	tells(t, "States.ArrayGetItem($[0], $[1])", list(list(text("x"), text("y")), number("0100", -2)), text("y"), nil)
}
