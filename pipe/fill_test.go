package pipe_test

import (
	"errors"
	"slices"
	"strings"
	"testing"

	"voyage/api"
	"voyage/call"
	"voyage/json"
	"voyage/pipe"
)

func text(s string) api.Value               { return api.Value{Kind: api.Text, Text: s} }
func list(v ...api.Value) api.Value         { return api.Value{Kind: api.List, List: v} }
func object(f ...api.Field) api.Value       { return api.Value{Kind: api.Object, Fields: f} }
func field(n string, v api.Value) api.Field { return api.Field{Name: n, Value: v} }

// number is told as it stands: no one form is made of it.
func number(digits string, exp int) api.Value {
	return api.Value{Kind: api.Number, Num: api.Dec{Digits: digits, Exp: exp}}
}

// sized is a text that weighs n bytes.
func sized(n int) api.Value { return text(strings.Repeat("x", n-len(`""`))) }

// nest puts v into so many lists, or, where there is a name, objects.
func nest(v api.Value, times int, name string) api.Value {
	for range times {
		if name == "" {
			v = list(v)
		} else {
			v = object(field(name, v))
		}
	}
	return v
}

// everything has a mark in each field, so that of what its kind doesn't name nothing may be left, or told.
func everything(kind int) api.Value {
	told := field("f.$", text("$.nowhere"))
	return api.Value{Kind: kind, Truth: true, Num: api.Dec{Neg: true, Digits: "070", Exp: 2}, Text: "t\xff", List: []api.Value{object(told)}, Fields: []api.Field{told}}
}

// identical holds two values against each other field by field, those too that their kinds don't name. A nil list and an empty one are the same.
func identical(a, b api.Value) bool {
	return a.Kind == b.Kind && a.Truth == b.Truth && a.Num == b.Num && a.Text == b.Text && slices.EqualFunc(a.List, b.List, identical) &&
		slices.EqualFunc(a.Fields, b.Fields, func(x, y api.Field) bool { return x.Name == y.Name && identical(x.Value, y.Value) })
}

// value is that of a text.
func value(t *testing.T, s string) api.Value {
	t.Helper()
	v, err := json.Parse(s)
	if err != nil {
		t.Fatalf("%s: %v", s, err)
	}
	return v
}

const (
	exampleInput   = `{"a": {"b": [1, 2]}, "n": 3}`
	exampleContext = `{"x": "y"}`
)

// fills wants an answer of Fill; where there is an error, the zero value beside it.
func fills(t *testing.T, template, input api.Value, want api.Value, wrong error) {
	t.Helper()
	got, err := pipe.Fill(template, input, value(t, exampleContext))
	if err != wrong || !identical(got, want) {
		t.Errorf("Fill(%.200q): %.200q, %v, want %.200q, %v", json.Print(template), json.Print(got), err, json.Print(want), wrong)
	}
}

// P4.1: which fields are told, and what comes of them.
func TestFill(t *testing.T) {
	for _, x := range []struct{ template, want string }{
		{`{"p.$": "$.a.b[1]", "q": {"r.$": "$$.x", "s": "$.n"}, "t": [{"u.$": "States.MathAdd($.n, 1)"}]}`, `{"p":2,"q":{"r":"y","s":"$.n"},"t":[{"u":4}]}`},
		{`{"p": 1, "p.$": "$.z"}`, `{"p":1}`}, {`{".$": "$.n"}`, `{"":3}`}, {`{"p.$.$": "$.n"}`, `{"p.$":3}`}, {`"$.n"`, `"$.n"`}, {`{"$": "$.n"}`, `{"$":"$.n"}`},
		{`{"p.$": "$"}`, `{"p":{"a":{"b":[1,2]},"n":3}}`}, {`{"p.$": "$$"}`, `{"p":{"x":"y"}}`}, {`{"p.$": "$.a.b[-1]"}`, `{"p":2}`}, {`{"p.$": "$['a']['b']"}`, `{"p":[1,2]}`},
		{`{"p.$": "$.n", "q.$": "$.n", "r.$": "$.a.b"}`, `{"p":3,"q":3,"r":[1,2]}`}, {`[{"p.$": "$.n"}, [{"p.$": "$.a.b[0]"}], {"p": {"p": {"p.$": "$$.x"}}}]`, `[{"p":3},[{"p":1}],{"p":{"p":{"p":"y"}}}]`},
		{`{"p": "$.n", "q": ["$.n", "$$.x", "States.Array()"]}`, `{"p":"$.n","q":["$.n","$$.x","States.Array()"]}`}, {`["$.n"]`, `["$.n"]`}, {`"States.Array()"`, `"States.Array()"`},
		{`{"$.": "$.n", ".": "$.n", "p$": "$.n", "p. $": "$.n", "p.$ ": "$.n", "p.$$": "$.n", ".$.": "$.n", "p\u0000$": "$.n"}`, `{"$.":"$.n",".":"$.n",".$.":"$.n","p\u0000$":"$.n","p$":"$.n","p. $":"$.n","p.$ ":"$.n","p.$$":"$.n"}`},
		{`{"é.$": "$.n", "$.$": "$.n", "..$": "$.n", "$..$": "$.n"}`, `{"$":3,"$.":3,".":3,"é":3}`},
		{"null", "null"}, {"true", "true"}, {"1.50", "15e-1"}, {"[]", "[]"}, {"{}", "{}"}, {`[1.50, null, true, [], {}]`, `[15e-1,null,true,[],{}]`}, {`{"b": {"d": 1, "c": 2}, "a": null}`, `{"a":null,"b":{"c":2,"d":1}}`},
	} {
		fills(t, value(t, x.template), value(t, exampleInput), value(t, x.want), nil)
	}
}

// P4.1: beside a field of just the name behind it a told one isn't looked at, whatever it is; but for that it must be the same object.
func TestFillBeside(t *testing.T) {
	for _, x := range []struct{ template, want string }{
		{`{"p": 1, "p.$": "$.n"}`, `{"p":1}`}, {`{"p": null, "p.$": 1}`, `{"p":null}`}, {`{"p": [], "p.$": "no path"}`, `{"p":[]}`}, {`{"p": {"q.$": "$.n"}, "p.$": "States.No()"}`, `{"p":{"q":3}}`}, {`{"p": {}, "p.$": {"q.$": 1}}`, `{"p":{}}`},
		{`{"": 1, ".$": "$.z"}`, `{"":1}`}, {`{"": 1, ".$.$": "$.n"}`, `{"":1,".$":3}`},
		{`{"p.$": "$.n", "p.$.$": "$.z"}`, `{"p":3}`}, {`{"p": 1, "p.$": "$.z", "p.$.$": "$.z"}`, `{"p":1}`}, {`{"p": 1, "p.$.$": "$.n"}`, `{"p":1,"p.$":3}`}, {`{"p.$": "$.n", "p.$.$.$": "$.a.b"}`, `{"p":3,"p.$.$":[1,2]}`},
		{`{"p": {"p.$": "$.n"}}`, `{"p":{"p":3}}`}, {`{"p": {"q": 1}, "q.$": "$.n"}`, `{"p":{"q":1},"q":3}`}, {`[{"p": 1}, {"p.$": "$.n"}]`, `[{"p":1},{"p":3}]`}, {`{"P": 1, "p.$": "$.n"}`, `{"P":1,"p":3}`}, {`{"p ": 1, "p.$": "$.n"}`, `{"p":3,"p ":1}`},
	} {
		fills(t, value(t, x.template), value(t, exampleInput), value(t, x.want), nil)
	}
	beside := object(field("p\xff.$", text("$.z")), field("p\ufffd", number("1", 0)))
	fills(t, beside, value(t, exampleInput), object(field("p\ufffd", number("1", 0))), nil)
}

// P4.1: what is wrong with a told field.
func TestFillWrong(t *testing.T) {
	for template, want := range map[string]error{
		`{"p.$": "$.z"}`: api.ErrPath, `{"p.$": 1}`: api.ErrKind, `{"p.$": "a"}`: api.ErrPath, `{"p.$": "States.Sum(1)"}`: api.ErrCall, `{"p.$": "States.MathAdd($.a, 1)"}`: api.ErrKind, `{"p.$": "States.ArrayLength($.z)"}`: api.ErrPath,
		`{"p.$": null}`: api.ErrKind, `{"p.$": true}`: api.ErrKind, `{"p.$": []}`: api.ErrKind, `{"p.$": {}}`: api.ErrKind, `{"p.$": ["$.n"]}`: api.ErrKind, `{"p.$": {"q.$": "$.n"}}`: api.ErrKind, `{".$": 3}`: api.ErrKind,
		`{"p.$": ""}`: api.ErrPath, `{"p.$": " $.n"}`: api.ErrPath, `{"p.$": "$.n "}`: api.ErrPath, `{"p.$": "$."}`: api.ErrPath, `{"p.$": "n"}`: api.ErrPath, `{"p.$": "$$$"}`: api.ErrPath, `{"p.$": "$.a.b[01]"}`: api.ErrPath, `{"p.$": "states.Array()"}`: api.ErrPath, `{"p.$": " States.Array()"}`: api.ErrPath, `{"p.$": "States"}`: api.ErrPath,
		`{"p.$": "$.a.b[2]"}`: api.ErrPath, `{"p.$": "$.n.n"}`: api.ErrPath, `{"p.$": "$$.n"}`: api.ErrPath, `{"p.$": "$.x"}`: api.ErrPath, `{"p.$": "$[0]"}`: api.ErrPath,
		`[1, [{"q": {"p.$": "$.z"}}]]`: api.ErrPath, `{"a": {"b": [{"p.$": 1}]}}`: api.ErrKind,
		`{"p.$": "States."}`: api.ErrCall, `{"p.$": "States.Array("}`: api.ErrCall, `{"p.$": "States.Array(1e10000)"}`: api.ErrCall, `{"p.$": "States.Array($.)"}`: api.ErrCall, `{"p.$": "States.Array($.z)"}`: api.ErrPath, `{"p.$": "States.Array('{')"}`: api.ErrCall,
	} {
		fills(t, value(t, template), value(t, exampleInput), api.Value{}, want)
	}
	longest := "$" + strings.Repeat(".a", api.MaxSteps)
	fills(t, object(field("p.$", text(longest))), nest(text("in"), 64, "a"), object(field("p", text("in"))), nil)
	fills(t, object(field("p.$", text(longest+".a"))), nest(text("in"), 65, "a"), api.Value{}, api.ErrPath)
}

// P4.1: what a call answers is call's own business: a fault is ErrCall, any other error is handed on.
func TestFillAsksCall(t *testing.T) {
	in, ctx := value(t, exampleInput), value(t, exampleContext)
	for _, s := range []string{
		"States.Array()", "States.Array($, $$)", "States.MathAdd($.n, 1)", "States.Format('{}!', $$.x)", "States.JsonToString($)", "States.StringToJson('\\{\"p.$\":\"$.n\"\\}')",
		"States.", "States.Array", "States.Array() ", "States.Nothing()", "States.Array(1,)", "States.Array('", "States.Array($$$)", "States.ArrayLength($.n)", "States.ArrayLength($.z)", "States.StringToJson('x')", "States.ArrayGetItem($.a.b, 2)", "states.Array()", "$.n", "",
	} {
		if !call.Is(s) {
			continue
		}
		want, wrong := call.Eval(s, in, ctx)
		var fault *api.Fault
		if errors.As(wrong, &fault) {
			wrong = api.ErrCall
		}
		filled := object(field("p", json.Norm(want)))
		if wrong != nil {
			filled = api.Value{}
		}
		fills(t, object(field("p.$", text(s))), in, filled, wrong)
	}
}

// P4.1: what was told is no template.
func TestToldOnce(t *testing.T) {
	in := object(field("o", object(field("p.$", text("$.n")), field("q", object(field("r.$", number("1", 0)))))), field("t", text("$.n")), field("n", number("3", 0)))
	fills(t, object(field("a.$", text("$.o"))), in, object(field("a", in.Fields[0].Value)), nil)
	fills(t, object(field("a.$", text("$.t"))), in, object(field("a", text("$.n"))), nil)
	fills(t, list(object(field("a.$", text("$")))), in, list(object(field("a", json.Norm(in)))), nil)
}

// P4.1, R5: templates and inputs that are told in other ways than the one form; the answer is in it.
func TestFillGoesByMeaning(t *testing.T) {
	in := object(field("n", number("0300", -2)), field("n", text("second")), field("\xff", everything(9)), field("l", list(everything(-1), text("\x80"))))
	for _, x := range []struct{ template, want api.Value }{
		{everything(api.Null), api.Value{}}, {everything(9), api.Value{}}, {everything(api.Truth), api.Value{Kind: api.Truth, Truth: true}}, {everything(api.Number), json.Norm(everything(api.Number))}, {everything(api.Text), text("t\ufffd")},
		{object(field("b.$", text("$.n")), field("a", number("10", 0)), field("b.$", number("1", 0)), field("a", everything(api.Object))), object(field("a", number("1", 1)), field("b", number("3", 0)))},
		{object(field("p\xff.$", text("$['\xfe']")), field("p\ufffd.$", text("$.z"))), object(field("p\ufffd", api.Value{}))},
		{object(field("a.$", text("$.l")), field("a-", text("\xff")), field("a!", api.Value{})), object(field("a", list(api.Value{}, text("\ufffd"))), field("a!", api.Value{}), field("a-", text("\ufffd")))},
		{list(object(field("\xff", list(everything(6))))), list(object(field("\ufffd", list(api.Value{}))))},
	} {
		fills(t, x.template, in, x.want, nil)
	}
	fills(t, everything(api.List), in, api.Value{}, api.ErrPath)
	fills(t, everything(api.Object), in, api.Value{}, api.ErrPath)
	fills(t, object(field("p.$", api.Value{Kind: 9, Text: "$.n"})), in, api.Value{}, api.ErrKind)
	if got, err := pipe.Fill(object(field("p.$", text("$$"))), text("input"), everything(api.Text)); err != nil || !identical(got, object(field("p", text("t\ufffd")))) {
		t.Errorf("from a context: %+v, %v", got, err)
	}
}

// P4.2: of several things that are wrong the one that is met first: elements in order, fields by rising names of the template, what is within them ahead of those behind.
func TestFillFirstWrong(t *testing.T) {
	for template, want := range map[string]error{
		`{"a.$": "$.z", "b.$": 1}`: api.ErrPath, `{"a.$": 1, "b.$": "$.z"}`: api.ErrKind, `{"b.$": 1, "a.$": "$.z"}`: api.ErrPath, `{"b.$": "$.z", "a.$": 1}`: api.ErrKind,
		`[{"a.$": 1}, {"a.$": "$.z"}]`: api.ErrKind, `[{"a.$": "$.z"}, {"a.$": 1}]`: api.ErrPath, `[{"b.$": "$.z"}, {"a.$": 1}]`: api.ErrPath, `[[[{"a.$": "$.z"}]], {"a.$": 1}]`: api.ErrPath, `[{"a.$": "States.No()"}, {"a.$": 1}]`: api.ErrCall,
		`{"a": {"z.$": 1}, "b.$": "$.z"}`: api.ErrKind, `{"b": {"a.$": 1}, "a.$": "$.z"}`: api.ErrPath, `{"a": [{"z.$": 1}, {"a.$": "$.z"}], "b.$": "$.z"}`: api.ErrKind,
		`{"a.$": 1, "a-": {"x.$": "$.z"}}`: api.ErrPath, `{"a.$": 1, "a!": {"x.$": "$.z"}}`: api.ErrPath, `{"a.$": 1, "a/": {"x.$": "$.z"}}`: api.ErrKind, `{"a.$": 1, "aa": {"x.$": "$.z"}}`: api.ErrKind, `{".$": 1, "-": {"x.$": "$.z"}}`: api.ErrPath,
		`{"a": 0, "a.$": 1, "b.$": "$.z"}`: api.ErrPath, `{"Z.$": 1, "a.$": "$.z"}`: api.ErrKind, `{"é.$": 1, "z.$": "$.z"}`: api.ErrPath,
	} {
		fills(t, value(t, template), value(t, exampleInput), api.Value{}, want)
	}
	behind := object(field("z.$", text("$.z")), field("a.$", number("1", 0)))
	fills(t, behind, api.Value{}, api.Value{}, api.ErrKind)
}
