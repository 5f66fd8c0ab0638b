package def_test

import (
	"reflect"
	"strings"
	"testing"

	"voyage/api"
	"voyage/def"
	"voyage/json"
	"voyage/path"
	"voyage/stamp"
)

func null() api.Value                       { return api.Value{} }
func truth(b bool) api.Value                { return api.Value{Kind: api.Truth, Truth: b} }
func text(s string) api.Value               { return api.Value{Kind: api.Text, Text: s} }
func list(v ...api.Value) api.Value         { return api.Value{Kind: api.List, List: v} }
func object(f ...api.Field) api.Value       { return api.Value{Kind: api.Object, Fields: f} }
func field(n string, v api.Value) api.Field { return api.Field{Name: n, Value: v} }

// number is told as it stands: no one form is made of it.
func number(digits string, exp int) api.Value {
	return api.Value{Kind: api.Number, Num: api.Dec{Digits: digits, Exp: exp}}
}

// value is that of a text.
func value(s string) api.Value {
	v, err := json.Parse(s)
	if err != nil {
		panic(s + ": " + err.Error())
	}
	return v
}

// at is the path of a text.
func at(s string) api.Path {
	p, err := path.Parse(s)
	if err != nil {
		panic(s)
	}
	return p
}

// nothing is the null path.
func nothing() api.Path { return api.Path{Set: true, Nothing: true} }

// moment is that of a text.
func moment(s string) api.Instant {
	m, err := stamp.Parse(s)
	if err != nil {
		panic(s)
	}
	return m
}

// alone is a machine of one state, a, told by this text.
func alone(state string) string { return `{"StartAt": "a", "States": {"a": ` + state + `}}` }

// choosing is a machine of one Choice of these rules.
func choosing(rules string) string { return alone(`{"Type": "Choice", "Choices": ` + rules + `}`) }

// bare makes nil of all lists without elements, however deep they stand: either is the same.
func bare[T any](x T) T {
	var walk func(v reflect.Value)
	walk = func(v reflect.Value) {
		switch v.Kind() {
		case reflect.Slice:
			if v.Len() == 0 {
				v.SetZero()
				return
			}
			fresh := reflect.MakeSlice(v.Type(), v.Len(), v.Len())
			reflect.Copy(fresh, v)
			v.Set(fresh)
			for i := range v.Len() {
				walk(v.Index(i))
			}
		case reflect.Struct:
			for i := range v.NumField() {
				walk(v.Field(i))
			}
		}
	}
	walk(reflect.ValueOf(&x).Elem())
	return x
}

// alike tells whether two are the same but for nil lists.
func alike[T any](a, b T) bool { return reflect.DeepEqual(bare(a), bare(b)) }

// reads wants that a value is this machine.
func reads(t *testing.T, v api.Value, want api.Machine) {
	t.Helper()
	got, err := def.Read(v)
	if err != nil || !alike(got, want) {
		t.Errorf("Read(%.3000s):\n%+v, %v, want\n%+v", json.Print(v), got, err, want)
	}
}

// readsState wants that this text is a state, alone in a machine.
func readsState(t *testing.T, state string, want api.State) {
	t.Helper()
	want.Name = "a"
	reads(t, value(alone(state)), api.Machine{Start: "a", States: []api.State{want}})
}

// faults wants that a value is no machine, and why and where: a *api.Fault itself, and the zero machine.
func faults(t *testing.T, v api.Value, where string, wrong error) {
	t.Helper()
	got, err := def.Read(v)
	f, is := err.(*api.Fault)
	if !is || f.At != 0 || f.Where != where || f.Err != wrong || !reflect.DeepEqual(got, api.Machine{}) {
		t.Errorf("Read(%.3000s): %+v, %v, want %v at %s", json.Print(v), got, err, wrong, where)
	}
}

// wrong is a text that is no machine, where, and why.
type wrong struct {
	text, where string
	err         error
}

// allFault wants that each one is wrong as it says.
func allFault(t *testing.T, rows []wrong) {
	t.Helper()
	for _, x := range rows {
		faults(t, value(x.text), x.where, x.err)
	}
}

// statesFault is allFault of texts that are states, whose places are told from the state on.
func statesFault(t *testing.T, rows []wrong) {
	t.Helper()
	for _, x := range rows {
		faults(t, value(alone(x.text)), "$.States.a"+x.where, x.err)
	}
}

// rulesFault is allFault of texts that are lists of rules, whose places are told from there on.
func rulesFault(t *testing.T, rows []wrong) {
	t.Helper()
	for _, x := range rows {
		faults(t, value(choosing(x.text)), "$.States.a.Choices"+x.where, x.err)
	}
}

// The chapter's examples.
func TestExamples(t *testing.T) {
	reads(t, value(`{"StartAt": "a", "States": {"a": {"Type": "Pass", "End": true}}}`), api.Machine{Start: "a", States: []api.State{{Name: "a", Type: 1}}})
	readsState(t, `{"Type": "Pass", "End": true, "Result": null}`, api.State{Type: api.Pass, HasFixed: true})
	allFault(t, []wrong{
		{`{"StartAt": "a", "States": {"a": {"Type": "Pass", "End": true, "Next": "b"}}}`, "$.States.a.Next", api.ErrField},
		{`{"StartAt": "a", "States": {"a": {"Type": "Pass"}}}`, "$.States.a.Next", api.ErrLacks},
		{`{"StartAt": "a", "States": {"a": {"Type": "Pass", "End": false}}}`, "$.States.a.End", api.ErrRange},
		{`{"StartAt": "a", "States": {"a": {"Type": "Pass", "End": true, "ResultPath": "$[-1]"}}}`, "$.States.a.ResultPath", api.ErrPath},
		{`{"States": {"x y": {"Type": "Go"}}}`, "$.States['x y'].Type", api.ErrRange},
		{`{"StartAt": ""}`, "$.StartAt", api.ErrRange},
		{`[]`, "$", api.ErrKind},
		{choosing(`[{"Not": {"Variable": "$.x", "IsNull": true}}]`), "$.States.a.Choices[0].Next", api.ErrLacks},
		{choosing(`[{"Next": "b", "Variable": "$", "IsNull": true, "StringEquals": 1}]`), "$.States.a.Choices[0].StringEquals", api.ErrField},
		{choosing(`[{"Next": "b"}]`), "$.States.a.Choices[0]", api.ErrLacks},
		{choosing(`[{"Next": "b", "And": [], "Variable": "$"}]`), "$.States.a.Choices[0].Variable", api.ErrField},
	})
	readsState(t, `{"Type": "Task", "Resource": "r", "Retry": [{"ErrorEquals": ["States.ALL"]}], "End": true}`, api.State{Type: api.Task, Resource: "r", Retry: []api.Retrier{{Errors: []string{"States.ALL"}, Interval: 1, Most: 3, Rate: api.Dec{Digits: "2"}}}})
}

// everyType is a machine of states of all types, with all that they may have.
const everyType = `{
"Comment": "all of it", "StartAt": "pass",
"States": {
	"pass": {"Type": "Pass", "Comment": "", "Next": "task", "InputPath": "$.in", "OutputPath": null, "ResultPath": "$.a['b c'][0]", "Parameters": {"x.$": "$.y", "b": 10, "a": [1.50]}, "Result": [null, {}]},
	"task": {"Type": "Task", "End": true, "InputPath": null, "OutputPath": "$$.out[-1]", "ResultPath": null, "Parameters": null, "ResultSelector": {"z.$": "$"}, "Resource": "do it",
		"Retry": [{"ErrorEquals": ["A", "", "B"], "IntervalSeconds": 0, "MaxAttempts": 2147483647, "BackoffRate": -1.50, "MaxDelaySeconds": 60}, {"ErrorEquals": []}],
		"Catch": [{"ErrorEquals": ["States.ALL"], "Next": "fail", "ResultPath": "$.error"}, {"ErrorEquals": [], "Next": "x", "ResultPath": null}, {"ErrorEquals": ["C"], "Next": "y"}]},
	"choice": {"Type": "Choice", "InputPath": "$", "OutputPath": "$", "Default": "wait",
		"Choices": [
			{"Next": "n1", "And": [{"Or": []}, {"Not": {"Variable": "$.v", "StringEquals": "s"}}, {"Variable": "$$", "IsPresent": false}]},
			{"Next": "n2", "Variable": "$['']", "NumericLessThanEqualsPath": "$$.limit[-2]"},
			{"Next": "n3", "Variable": "$.t", "TimestampGreaterThan": "2020-01-01T01:00:00.50+01:00"}]},
	"wait 1": {"Type": "Wait", "Next": "z", "InputPath": "$.w", "OutputPath": "$.w", "Seconds": 12e1},
	"wait 2": {"Type": "Wait", "End": true, "SecondsPath": "$$.s"},
	"wait 3": {"Type": "Wait", "Next": "z", "Timestamp": "2020-01-01T01:00:00.50+01:00"},
	"wait 4": {"Type": "Wait", "End": true, "TimestampPath": "$.t[0]"},
	"succeed": {"Type": "Succeed", "InputPath": "$.s", "OutputPath": null},
	"fail": {"Type": "Fail", "Error": "E", "Cause": "because"},
	"parallel": {"Type": "Parallel", "Next": "map", "InputPath": "$.p", "OutputPath": "$.p", "ResultPath": "$", "Parameters": 1, "ResultSelector": [], "Retry": [], "Catch": [],
		"Branches": [{"StartAt": "q", "States": {}}, {"Comment": "two", "StartAt": "r", "States": {"r": {"Type": "Succeed"}, "p": {"Type": "Fail"}}}]},
	"map": {"Type": "Map", "End": true, "InputPath": "$.m", "OutputPath": "$.m", "ResultPath": "$.m", "Parameters": "$", "ResultSelector": true, "Retry": [{"ErrorEquals": ["R"]}], "Catch": [{"ErrorEquals": ["R"], "Next": "m"}],
		"Iterator": {"StartAt": "i", "States": {"i": {"Type": "Pass", "End": true}}}, "ItemsPath": "$$.items", "MaxConcurrency": 0.4e1}
}}`

// everyState is what these states are, in the order of their names.
func everyState() []api.State {
	two := api.Dec{Digits: "2"}
	return []api.State{
		{Name: "choice", Type: api.Choice, Input: at("$"), Output: at("$"), Default: "wait", Rules: []api.Rule{
			{Op: 1, Next: "n1", All: []api.Rule{{Op: 2}, {Op: 3, All: []api.Rule{{Op: 4, Var: at("$.v"), With: text("s")}}}, {Op: 38, Var: at("$$"), With: truth(false)}}},
			{Op: 22, Next: "n2", Var: at("$['']"), At: at("$$.limit[-2]")},
			{Op: 31, Next: "n3", Var: at("$.t"), With: text("2020-01-01T01:00:00.50+01:00")},
		}},
		{Name: "fail", Type: api.Fail, Error: "E", Cause: "because"},
		{Name: "map", Type: api.Map, Input: at("$.m"), Output: at("$.m"), Result: at("$.m"), HasParameters: true, Parameters: text("$"), HasSelector: true, Selector: truth(true), Retry: []api.Retrier{{Errors: []string{"R"}, Interval: 1, Most: 3, Rate: two}}, Catch: []api.Catcher{{Errors: []string{"R"}, Next: "m"}},
			Parts: []api.Machine{{Start: "i", States: []api.State{{Name: "i", Type: api.Pass}}}}, Items: at("$$.items"), Most: 4},
		{Name: "parallel", Type: api.Parallel, Next: "map", Input: at("$.p"), Output: at("$.p"), Result: at("$"), HasParameters: true, Parameters: number("1", 0), HasSelector: true, Selector: list(),
			Parts: []api.Machine{{Start: "q"}, {Start: "r", States: []api.State{{Name: "p", Type: api.Fail}, {Name: "r", Type: api.Succeed}}}}},
		{Name: "pass", Type: api.Pass, Next: "task", Input: at("$.in"), Output: nothing(), Result: at("$.a['b c'][0]"), HasParameters: true, Parameters: object(field("a", list(number("15", -1))), field("b", number("1", 1)), field("x.$", text("$.y"))), HasFixed: true, Fixed: list(null(), object())},
		{Name: "succeed", Type: api.Succeed, Input: at("$.s"), Output: nothing()},
		{Name: "task", Type: api.Task, Input: nothing(), Output: at("$$.out[-1]"), Result: nothing(), HasParameters: true, HasSelector: true, Selector: object(field("z.$", text("$"))), Resource: "do it",
			Retry: []api.Retrier{{Errors: []string{"A", "", "B"}, Most: 2147483647, Rate: api.Dec{Neg: true, Digits: "15", Exp: -1}, MaxDelay: 60}, {Interval: 1, Most: 3, Rate: two}},
			Catch: []api.Catcher{{Errors: []string{"States.ALL"}, Next: "fail", Result: at("$.error")}, {Next: "x", Result: nothing()}, {Errors: []string{"C"}, Next: "y"}}},
		{Name: "wait 1", Type: api.Wait, Next: "z", Input: at("$.w"), Output: at("$.w"), WaitKind: 1, Seconds: 120},
		{Name: "wait 2", Type: api.Wait, WaitKind: 2, AtPath: at("$$.s")},
		{Name: "wait 3", Type: api.Wait, Next: "z", WaitKind: 3, Until: api.Instant{Sec: 1577836800, Nano: 500000000}},
		{Name: "wait 4", Type: api.Wait, WaitKind: 4, AtPath: at("$.t[0]")},
	}
}

// P8.1: a machine with states of all eight types. P8.4: it is the same, told again.
func TestEveryType(t *testing.T) {
	want := api.Machine{Start: "pass", States: everyState()}
	reads(t, value(everyType), want)
	reads(t, def.Print(want), want)
}

// P8.1: what isn't told of a state is zero.
func TestLeast(t *testing.T) {
	readsState(t, `{"Type": "Pass", "Next": "b"}`, api.State{Type: api.Pass, Next: "b"})
	readsState(t, `{"Type": "Task", "End": true, "Resource": "r"}`, api.State{Type: api.Task, Resource: "r"})
	readsState(t, `{"Type": "Choice", "Choices": []}`, api.State{Type: api.Choice})
	readsState(t, `{"Type": "Wait", "Seconds": 0, "End": true}`, api.State{Type: api.Wait, WaitKind: 1})
	readsState(t, `{"Type": "Succeed"}`, api.State{Type: api.Succeed})
	readsState(t, `{"Type": "Fail"}`, api.State{Type: api.Fail})
	readsState(t, `{"Type": "Fail", "Error": "", "Cause": ""}`, api.State{Type: api.Fail})
	readsState(t, `{"Type": "Parallel", "Branches": [], "End": true}`, api.State{Type: api.Parallel})
	readsState(t, `{"Type": "Map", "Iterator": {"StartAt": "x", "States": {}}, "End": true}`, api.State{Type: api.Map, Parts: []api.Machine{{Start: "x"}}})
	reads(t, value(`{"StartAt": "nowhere", "States": {}}`), api.Machine{Start: "nowhere"})
}

// P8.1: a null way, and one that isn't there; the null value of what may be any, and one that isn't there.
func TestNull(t *testing.T) {
	readsState(t, `{"Type": "Task", "Resource": "r", "End": true, "InputPath": null, "OutputPath": null, "ResultPath": null}`, api.State{Type: api.Task, Resource: "r", Input: nothing(), Output: nothing(), Result: nothing()})
	readsState(t, `{"Type": "Task", "Resource": "r", "End": true, "Parameters": null}`, api.State{Type: api.Task, Resource: "r", HasParameters: true})
	readsState(t, `{"Type": "Task", "Resource": "r", "End": true, "ResultSelector": null}`, api.State{Type: api.Task, Resource: "r", HasSelector: true})
	statesFault(t, []wrong{
		{`{"Type": "Pass", "Next": null}`, ".Next", api.ErrKind},
		{`{"Type": "Pass", "End": null}`, ".End", api.ErrKind},
		{`{"Type": null, "End": true}`, ".Type", api.ErrKind},
		{`{"Type": "Wait", "SecondsPath": null, "End": true}`, ".SecondsPath", api.ErrKind},
		{`{"Type": "Wait", "TimestampPath": null, "End": true}`, ".TimestampPath", api.ErrKind},
		{`{"Type": "Map", "ItemsPath": null, "Iterator": {"StartAt": "x", "States": {}}, "End": true}`, ".ItemsPath", api.ErrKind},
		{`{"Type": "Choice", "Choices": [{"Next": "b", "Variable": null, "IsNull": true}]}`, ".Choices[0].Variable", api.ErrKind},
		{`{"Type": "Choice", "Choices": [{"Next": "b", "Variable": "$", "StringEqualsPath": null}]}`, ".Choices[0].StringEqualsPath", api.ErrKind},
		{`{"Type": "Succeed", "Comment": null}`, ".Comment", api.ErrKind},
	})
}

// P8.1: machines that are none.
func TestNoMachines(t *testing.T) {
	allFault(t, []wrong{
		{`null`, "$", api.ErrKind}, {`true`, "$", api.ErrKind}, {`1`, "$", api.ErrKind}, {`"a"`, "$", api.ErrKind}, {`[{"StartAt": "a", "States": {}}]`, "$", api.ErrKind},
		{`{}`, "$.StartAt", api.ErrLacks},
		{`{"States": {}}`, "$.StartAt", api.ErrLacks},
		{`{"StartAt": "a"}`, "$.States", api.ErrLacks},
		{`{"Comment": "c"}`, "$.StartAt", api.ErrLacks},
		{`{"Comment": 1}`, "$.Comment", api.ErrKind},
		{`{"StartAt": 1, "States": {}}`, "$.StartAt", api.ErrKind},
		{`{"StartAt": null, "States": {}}`, "$.StartAt", api.ErrKind},
		{`{"StartAt": "", "States": 1}`, "$.StartAt", api.ErrRange},
		{`{"StartAt": "a", "States": []}`, "$.States", api.ErrKind},
		{`{"StartAt": "a", "States": null}`, "$.States", api.ErrKind},
		{`{"StartAt": "a", "States": {"a": 1}}`, "$.States.a", api.ErrKind},
		{`{"StartAt": "a", "States": {"a": []}}`, "$.States.a", api.ErrKind},
		{`{"StartAt": "a", "States": {"a": {}}}`, "$.States.a.Type", api.ErrLacks},
		{`{"StartAt": "a", "States": {"a": null}}`, "$.States.a", api.ErrKind},
		{`{"StartAt": "a", "States": {}, "Version": "1"}`, "$.Version", api.ErrField},
		{`{"": 1}`, "$['']", api.ErrField},
		{`{"startAt": "a"}`, "$.startAt", api.ErrField},
		{`{"StartAt ": "a"}`, "$['StartAt ']", api.ErrField},
		{`{"Start": "a"}`, "$.Start", api.ErrField},
		{`{"Type": "Pass"}`, "$.Type", api.ErrField},
	})
}

// P8.1: fields by rising names; all that is within one ahead of the next; what is missing behind all that is there.
func TestFirstFault(t *testing.T) {
	allFault(t, []wrong{
		{`{"Comment": 1, "A": 1}`, "$.A", api.ErrField},
		{`{"Comment": 1, "B": 1, "StartAt": 1}`, "$.B", api.ErrField},
		{`{"Comment": 1, "D": 1}`, "$.Comment", api.ErrKind},
		{`{"StartAt": "", "Z": 1}`, "$.StartAt", api.ErrRange},
		{`{"StartAt": "", "S": 1}`, "$.S", api.ErrField},
		{`{"States": 1, "z": 1}`, "$.States", api.ErrKind},
		{`{"States": {"b": 1, "a": {"Type": "Go"}, "": 1}}`, "$.States['']", api.ErrField},
		{`{"States": {"b": 1, "a": {"Type": "Go"}}}`, "$.States.a.Type", api.ErrRange},
		{`{"States": {"b": 1, "a": {"Type": "Succeed"}}}`, "$.States.b", api.ErrKind},
		{`{"States": {"b": 1, "a": {"Type": "Pass"}}}`, "$.States.a.Next", api.ErrLacks},
		{`{"States": {"a": {"Type": "Succeed"}, "B": {"Type": "Pass"}, "é": 1}, "zone": 1}`, "$.States.B.Next", api.ErrLacks},
		{`{"States": {"a": {"Type": "Succeed"}, "é": 1}, "zone": 1}`, "$.States['é']", api.ErrKind},
		{`{"States": {"a": {"Type": "Succeed"}}, "zone": 1}`, "$.zone", api.ErrField},
		{`{"States": {"a": {"Type": "Succeed"}}}`, "$.StartAt", api.ErrLacks},
	})
	statesFault(t, []wrong{
		{`{"A": 1}`, ".Type", api.ErrLacks}, // the Type is ahead of all fields
		{`{"A": 1, "Type": 1}`, ".Type", api.ErrKind},
		{`{"A": 1, "Type": ""}`, ".Type", api.ErrRange},
		{`{"A": 1, "Type": "pass"}`, ".Type", api.ErrRange},
		{`{"A": 1, "Type": "Pass", "Comment": 1}`, ".A", api.ErrField},
		{`{"Type": "Pass", "Comment": 1, "D": 1}`, ".Comment", api.ErrKind},
		{`{"Type": "Pass", "InputPath": 1, "Next": ""}`, ".InputPath", api.ErrKind},
		{`{"Type": "Pass", "Next": "", "OutputPath": 1}`, ".Next", api.ErrRange},
		{`{"Type": "Pass", "OutputPath": "", "ResultPath": 1}`, ".OutputPath", api.ErrPath},
		{`{"Type": "Pass", "Result": 1, "ResultPath": 1, "ResultSelector": 1}`, ".ResultPath", api.ErrKind},
		{`{"Type": "Pass", "Result": 1, "ResultSelector": 1, "Resulu": 1}`, ".ResultSelector", api.ErrField},
		{`{"Type": "Task"}`, ".Next", api.ErrLacks},
		{`{"Type": "Task", "Resource": "r"}`, ".Next", api.ErrLacks},
		{`{"Type": "Task", "End": true}`, ".Resource", api.ErrLacks},
		{`{"Type": "Task", "Next": "b"}`, ".Resource", api.ErrLacks},
		{`{"Type": "Task", "Retry": [{}], "Catch": [{}]}`, ".Catch[0].ErrorEquals", api.ErrLacks},
		{`{"Type": "Task", "Retry": [{"ErrorEquals": []}, {}], "Resource": ""}`, ".Resource", api.ErrRange},
		{`{"Type": "Task", "Retry": [{"ErrorEquals": []}, {}], "Zone": 1}`, ".Retry[1].ErrorEquals", api.ErrLacks},
		{`{"Type": "Wait"}`, ".Next", api.ErrLacks},
		{`{"Type": "Parallel"}`, ".Next", api.ErrLacks},
		{`{"Type": "Map"}`, ".Next", api.ErrLacks},
		{`{"Type": "Parallel", "End": true}`, ".Branches", api.ErrLacks},
		{`{"Type": "Map", "End": true}`, ".Iterator", api.ErrLacks},
		{`{"Type": "Choice"}`, ".Choices", api.ErrLacks},
		{`{"Type": "Choice", "Default": ""}`, ".Default", api.ErrRange},
		{`{"Type": "Choice", "Default": "", "Choices": 1}`, ".Choices", api.ErrKind},
		{`{"Type": "Parallel", "Branches": [{"StartAt": "b", "States": {}}, {"StartAt": "b", "States": {"c": {"Type": "Map", "Iterator": {"StartAt": ""}}}}]}`, ".Branches[1].States.c.Iterator.StartAt", api.ErrRange},
		{`{"Type": "Parallel", "Branches": [{"StartAt": "b"}, 1]}`, ".Branches[0].States", api.ErrLacks},
		{`{"Type": "Parallel", "Branches": [{"StartAt": "b", "States": {}}, 1]}`, ".Branches[1]", api.ErrKind},
	})
}

// P8.1: Next and End.
func TestNextAndEnd(t *testing.T) {
	beside := map[string]string{"Pass": ``, "Task": `, "Resource": "r"`, "Wait": `, "Seconds": 1`, "Parallel": `, "Branches": []`, "Map": `, "Iterator": {"StartAt": "x", "States": {}}`}
	for name, more := range beside {
		state := func(fields string) string { return `{"Type": "` + name + `"` + more + fields + `}` }
		for fields, next := range map[string]string{`, "Next": "b"`: "b", `, "Next": "a"`: "a", `, "End": true`: ""} {
			m, err := def.Read(value(alone(state(fields))))
			if err != nil || m.States[0].Next != next {
				t.Errorf("%s: %+v, %v", state(fields), m, err)
			}
		}
		statesFault(t, []wrong{
			{state(``), ".Next", api.ErrLacks},
			{state(`, "Next": "b", "End": true`), ".Next", api.ErrField},
			{state(`, "End": true, "Next": ""`), ".Next", api.ErrField},
			{state(`, "End": true, "Next": 1`), ".Next", api.ErrField},
			{state(`, "End": false, "Next": "b"`), ".End", api.ErrRange},
			{state(`, "End": false`), ".End", api.ErrRange},
			{state(`, "End": "true", "Next": "b"`), ".End", api.ErrKind},
			{state(`, "End": 1`), ".End", api.ErrKind},
			{state(`, "Next": ""`), ".Next", api.ErrRange},
			{state(`, "Next": ["b"]`), ".Next", api.ErrKind},
			{state(`, "End": true, "Next": "b", "InputPath": 1`), ".InputPath", api.ErrKind},
			{state(`, "End": true, "Next": "b", "OutputPath": 1`), ".Next", api.ErrField},
		})
	}
	statesFault(t, []wrong{
		{`{"Type": "Succeed", "End": true}`, ".End", api.ErrField},
		{`{"Type": "Succeed", "Next": "b"}`, ".Next", api.ErrField},
		{`{"Type": "Fail", "End": false}`, ".End", api.ErrField},
		{`{"Type": "Fail", "Next": "b"}`, ".Next", api.ErrField},
		{`{"Type": "Choice", "Choices": [], "End": true}`, ".End", api.ErrField},
		{`{"Type": "Choice", "Choices": [], "Next": "b"}`, ".Next", api.ErrField},
	})
}

// P8.1: the four of a Wait.
func TestWaits(t *testing.T) {
	readsState(t, `{"Type": "Wait", "End": true, "Seconds": 5}`, api.State{Type: api.Wait, WaitKind: 1, Seconds: 5})
	readsState(t, `{"Type": "Wait", "End": true, "SecondsPath": "$.s"}`, api.State{Type: api.Wait, WaitKind: 2, AtPath: at("$.s")})
	readsState(t, `{"Type": "Wait", "End": true, "Timestamp": "1970-01-01T00:00:05Z"}`, api.State{Type: api.Wait, WaitKind: 3, Until: api.Instant{Sec: 5}})
	readsState(t, `{"Type": "Wait", "End": true, "TimestampPath": "$$[-1]"}`, api.State{Type: api.Wait, WaitKind: 4, AtPath: at("$$[-1]")})
	names := []string{"Seconds", "SecondsPath", "Timestamp", "TimestampPath"}
	good := []string{`5`, `"$.s"`, `"1970-01-01T00:00:05Z"`, `"$.s"`}
	for i := range names {
		for j := i + 1; j < len(names); j++ {
			for _, second := range []string{good[j], `{}`, `null`, `"x"`} {
				two := `"` + names[j] + `": ` + second + `, "` + names[i] + `": `
				statesFault(t, []wrong{
					{`{"Type": "Wait", "End": true, ` + two + good[i] + `}`, "." + names[j], api.ErrField},
					{`{"Type": "Wait", ` + two + good[i] + `}`, "." + names[j], api.ErrField},
					{`{"Type": "Wait", "End": true, ` + two + `[]}`, "." + names[i], api.ErrKind},
				})
			}
		}
	}
	statesFault(t, []wrong{
		{`{"Type": "Wait", "End": true}`, ".Seconds", api.ErrLacks},
		{`{"Type": "Wait", "End": true, "TimestampPath": "$", "Timestamp": "2020-01-01T00:00:00Z", "SecondsPath": "$", "Seconds": 1}`, ".SecondsPath", api.ErrField},
		{`{"Type": "Wait", "End": true, "Seconds": 1, "SecondsPat": 1}`, ".SecondsPat", api.ErrField},
		{`{"Type": "Wait", "End": true, "SecondsPath": "$", "Retry": 1}`, ".Retry", api.ErrField},
	})
}

// P8.1: wholes: their bounds, beyond them, and numbers that are told otherwise but are the same.
func TestWholes(t *testing.T) {
	below := func(v api.Value) api.Value {
		v.Num.Neg = true
		return v
	}
	wait := func(v api.Value) api.Value {
		return object(field("StartAt", text("a")), field("States", object(field("a", object(field("Type", text("Wait")), field("End", truth(true)), field("Seconds", v))))))
	}
	for _, x := range []struct {
		v    api.Value
		want int
	}{
		{number("", 0), 0}, {number("0", 0), 0}, {number("000", 7), 0}, {below(number("0", 0)), 0}, {number("1", 10000), 0}, {number("1", -10000), 0}, {below(number("1", 10000)), 0}, {number("xyz", 1), 0},
		{number("1", 0), 1}, {number("10", -1), 1}, {number("1000000", -6), 1}, {number("0001", 0), 1}, {number("1x", 0), 1}, {number("2", 9), 2000000000}, {number("12", 1), 120},
		{number("2147483647", 0), 2147483647}, {number("214748364700", -2), 2147483647}, {number("2147483646", 0), 2147483646},
	} {
		reads(t, wait(x.v), api.Machine{Start: "a", States: []api.State{{Name: "a", Type: api.Wait, WaitKind: 1, Seconds: x.want}}})
	}
	for _, v := range []api.Value{below(number("1", 0)), below(number("1", -1)), number("1", -1), number("15", -1), number("1", -9999), number("2147483648", 0), number("21474836471", -1), number("21474836465", -1), number("3", 9), number("4294967296", 0), number("4294967297", 0), number("9223372036854775807", 0), number("18446744073709551617", 0), number("1", 9999), below(number("2147483647", 0))} {
		faults(t, wait(v), "$.States.a.Seconds", api.ErrRange)
	}
	statesFault(t, []wrong{
		{`{"Type": "Map", "End": true, "Iterator": {"StartAt": "x", "States": {}}, "MaxConcurrency": -1}`, ".MaxConcurrency", api.ErrRange},
		{`{"Type": "Map", "End": true, "Iterator": {"StartAt": "x", "States": {}}, "MaxConcurrency": 2147483648}`, ".MaxConcurrency", api.ErrRange},
		{`{"Type": "Map", "End": true, "Iterator": {"StartAt": "x", "States": {}}, "MaxConcurrency": "1"}`, ".MaxConcurrency", api.ErrKind},
		{`{"Type": "Wait", "End": true, "Seconds": "1"}`, ".Seconds", api.ErrKind},
		{`{"Type": "Wait", "End": true, "Seconds": true}`, ".Seconds", api.ErrKind},
	})
}

// P8.1: moments, and those that can't be told again.
func TestMoments(t *testing.T) {
	for _, s := range []string{"1970-01-01T00:00:00Z", "2020-02-29T23:59:59.123456789-23:59", "0000-01-01T00:00:00Z", "0000-01-01T00:01:00+00:01", "0000-01-01T00:00:00-00:01", "9999-12-31T23:59:59.999999999Z", "9999-12-31T23:58:59-00:01", "9999-12-31T23:59:59+23:59"} {
		readsState(t, `{"Type": "Wait", "End": true, "Timestamp": "`+s+`"}`, api.State{Type: api.Wait, WaitKind: 3, Until: moment(s)})
		readsState(t, `{"Type": "Choice", "Choices": [{"Next": "b", "Variable": "$", "TimestampEquals": "`+s+`"}]}`, api.State{Type: api.Choice, Rules: []api.Rule{{Op: 27, Next: "b", Var: at("$"), With: text(s)}}})
	}
	for _, s := range []string{"", "x", "2020-01-01", "2020-01-01T00:00:00", "2023-02-29T00:00:00Z", "2020-01-01T00:00:60Z", " 2020-01-01T00:00:00Z", "2020-01-01t00:00:00z", "0000-01-01T00:00:00+00:01", "0000-01-01T23:58:59.999999999+23:59", "9999-12-31T23:59:59-00:01", "9999-12-31T00:01:00-23:59", "10000-01-01T00:00:00Z"} {
		statesFault(t, []wrong{
			{`{"Type": "Wait", "End": true, "Timestamp": "` + s + `"}`, ".Timestamp", api.ErrTime},
			{`{"Type": "Choice", "Choices": [{"Next": "b", "Variable": "$", "TimestampLessThan": "` + s + `"}]}`, ".Choices[0].TimestampLessThan", api.ErrTime},
		})
	}
	statesFault(t, []wrong{
		{`{"Type": "Wait", "End": true, "Timestamp": 0}`, ".Timestamp", api.ErrKind},
		{`{"Type": "Wait", "End": true, "Timestamp": null}`, ".Timestamp", api.ErrKind},
		{`{"Type": "Choice", "Choices": [{"Next": "b", "Variable": "$", "TimestampEquals": 1577836800}]}`, ".Choices[0].TimestampEquals", api.ErrKind},
	})
}

// P8.1: paths that are none, and such as aren't plain.
func TestPaths(t *testing.T) {
	for _, s := range []string{"$", "$.a", "$$", "$$.a", "$[-1]", "$['x y'].b[2147483647]", "$" + strings.Repeat(".a", 64)} {
		plain := path.Plain(at(s))
		readsState(t, `{"Type": "Succeed", "InputPath": "`+s+`", "OutputPath": "`+s+`"}`, api.State{Type: api.Succeed, Input: at(s), Output: at(s)})
		readsState(t, `{"Type": "Map", "End": true, "Iterator": {"StartAt": "x", "States": {}}, "ItemsPath": "`+s+`"}`, api.State{Type: api.Map, Parts: []api.Machine{{Start: "x"}}, Items: at(s)})
		readsState(t, `{"Type": "Choice", "Choices": [{"Next": "b", "Variable": "`+s+`", "BooleanEqualsPath": "`+s+`"}]}`, api.State{Type: api.Choice, Rules: []api.Rule{{Op: 26, Next: "b", Var: at(s), At: at(s)}}})
		pass := `{"Type": "Pass", "End": true, "ResultPath": "` + s + `"}`
		task := `{"Type": "Task", "Resource": "r", "End": true, "Catch": [{"ErrorEquals": [], "Next": "b", "ResultPath": "` + s + `"}]}`
		if plain {
			readsState(t, pass, api.State{Type: api.Pass, Result: at(s)})
			readsState(t, task, api.State{Type: api.Task, Resource: "r", Catch: []api.Catcher{{Next: "b", Result: at(s)}}})
		} else {
			statesFault(t, []wrong{{pass, ".ResultPath", api.ErrPath}, {task, ".Catch[0].ResultPath", api.ErrPath}})
		}
	}
	for _, s := range []string{"", "a", "$.", "$x", "$$$", "$[01]", "$[2147483648]", "$ ", "States.UUID()", "$" + strings.Repeat(".a", 65)} {
		statesFault(t, []wrong{
			{`{"Type": "Succeed", "InputPath": "` + s + `"}`, ".InputPath", api.ErrPath},
			{`{"Type": "Succeed", "OutputPath": "` + s + `"}`, ".OutputPath", api.ErrPath},
			{`{"Type": "Pass", "End": true, "ResultPath": "` + s + `"}`, ".ResultPath", api.ErrPath},
			{`{"Type": "Wait", "End": true, "SecondsPath": "` + s + `"}`, ".SecondsPath", api.ErrPath},
			{`{"Type": "Wait", "End": true, "TimestampPath": "` + s + `"}`, ".TimestampPath", api.ErrPath},
			{`{"Type": "Map", "ItemsPath": "` + s + `"}`, ".ItemsPath", api.ErrPath},
			{`{"Type": "Task", "Catch": [{"ResultPath": "` + s + `"}]}`, ".Catch[0].ResultPath", api.ErrPath},
			{`{"Type": "Choice", "Choices": [{"Variable": "` + s + `"}]}`, ".Choices[0].Variable", api.ErrPath},
			{`{"Type": "Choice", "Choices": [{"IsNull": true, "Variable": "` + s + `"}]}`, ".Choices[0].Variable", api.ErrPath},
			{`{"Type": "Choice", "Choices": [{"NumericEqualsPath": "` + s + `"}]}`, ".Choices[0].NumericEqualsPath", api.ErrPath},
		})
	}
}

// P8.1: retriers and catchers, what they have without saying it, and what they may not have.
func TestRetryAndCatch(t *testing.T) {
	task := func(more string) string { return `{"Type": "Task", "End": true, "Resource": "r", ` + more + `}` }
	for text, want := range map[string]api.Retrier{
		`"IntervalSeconds": 0`:          {Interval: 0, Most: 3, Rate: api.Dec{Digits: "2"}},
		`"IntervalSeconds": 2147483647`: {Interval: 2147483647, Most: 3, Rate: api.Dec{Digits: "2"}},
		`"MaxAttempts": 0`:              {Interval: 1, Most: 0, Rate: api.Dec{Digits: "2"}},
		`"BackoffRate": 0.0`:            {Interval: 1, Most: 3},
		`"BackoffRate": -12.50e1`:       {Interval: 1, Most: 3, Rate: api.Dec{Neg: true, Digits: "125"}},
		`"MaxDelaySeconds": 0`:          {Interval: 1, Most: 3, Rate: api.Dec{Digits: "2"}},
		`"MaxDelaySeconds": 1`:          {Interval: 1, Most: 3, Rate: api.Dec{Digits: "2"}, MaxDelay: 1},
	} {
		readsState(t, task(`"Retry": [{"ErrorEquals": [], `+text+`}]`), api.State{Type: api.Task, Resource: "r", Retry: []api.Retrier{want}})
	}
	statesFault(t, []wrong{
		{task(`"Retry": {}`), ".Retry", api.ErrKind}, {task(`"Retry": null`), ".Retry", api.ErrKind}, {task(`"Catch": "x"`), ".Catch", api.ErrKind},
		{task(`"Retry": [1]`), ".Retry[0]", api.ErrKind}, {task(`"Catch": [[]]`), ".Catch[0]", api.ErrKind}, {task(`"Retry": [{"ErrorEquals": []}, null]`), ".Retry[1]", api.ErrKind},
		{task(`"Retry": [{}]`), ".Retry[0].ErrorEquals", api.ErrLacks}, {task(`"Catch": [{}]`), ".Catch[0].ErrorEquals", api.ErrLacks},
		{task(`"Catch": [{"Next": "b"}]`), ".Catch[0].ErrorEquals", api.ErrLacks}, {task(`"Catch": [{"ErrorEquals": []}]`), ".Catch[0].Next", api.ErrLacks},
		{task(`"Retry": [{"ErrorEquals": "a"}]`), ".Retry[0].ErrorEquals", api.ErrKind}, {task(`"Retry": [{"ErrorEquals": {}}]`), ".Retry[0].ErrorEquals", api.ErrKind},
		{task(`"Retry": [{"ErrorEquals": ["a", 1, null]}]`), ".Retry[0].ErrorEquals[1]", api.ErrKind}, {task(`"Catch": [{"ErrorEquals": [null], "Next": ""}]`), ".Catch[0].ErrorEquals[0]", api.ErrKind},
		{task(`"Catch": [{"ErrorEquals": [], "Next": ""}]`), ".Catch[0].Next", api.ErrRange}, {task(`"Catch": [{"ErrorEquals": [], "Next": 1}]`), ".Catch[0].Next", api.ErrKind},
		{task(`"Retry": [{"ErrorEquals": [], "Comment": "c"}]`), ".Retry[0].Comment", api.ErrField}, {task(`"Catch": [{"ErrorEquals": [], "Next": "b", "Comment": "c"}]`), ".Catch[0].Comment", api.ErrField},
		{task(`"Retry": [{"ErrorEquals": [], "Next": "b"}]`), ".Retry[0].Next", api.ErrField}, {task(`"Catch": [{"ErrorEquals": [], "Next": "b", "MaxAttempts": 1}]`), ".Catch[0].MaxAttempts", api.ErrField},
		{task(`"Retry": [{"BackoffRate": "2", "ErrorEquals": 1}]`), ".Retry[0].BackoffRate", api.ErrKind}, {task(`"Retry": [{"ErrorEquals": [], "IntervalSeconds": -1}]`), ".Retry[0].IntervalSeconds", api.ErrRange},
		{task(`"Retry": [{"ErrorEquals": [], "MaxAttempts": 1.5}]`), ".Retry[0].MaxAttempts", api.ErrRange}, {task(`"Retry": [{"ErrorEquals": [], "MaxDelaySeconds": 2147483648}]`), ".Retry[0].MaxDelaySeconds", api.ErrRange},
		{task(`"Retry": [{"ErrorEquals": [], "MaxDelaySeconds": null}]`), ".Retry[0].MaxDelaySeconds", api.ErrKind}, {task(`"Retry": [{"ErrorEquals": [], "MaxAttempts": "3"}]`), ".Retry[0].MaxAttempts", api.ErrKind},
		{task(`"Retry": [{"MaxDelaySeconds": -1}]`), ".Retry[0].MaxDelaySeconds", api.ErrRange},
	})
}

// P8.1: one form: fields with one name, names and texts that are no UTF-8, kinds that are none, and what a kind doesn't name.
func TestOneForm(t *testing.T) {
	odd := func(v api.Value) api.Value { // what its kind doesn't name is filled
		full := api.Value{Kind: v.Kind, Truth: true, Num: api.Dec{Digits: "7"}, Text: "full", List: []api.Value{null()}, Fields: []api.Field{field("Type", text("Fail"))}}
		switch v.Kind {
		case api.Text:
			full.Text = v.Text
		case api.Object:
			full.Fields = v.Fields
		case api.Truth:
			full.Truth = v.Truth
		}
		return full
	}
	a := odd(object(field("Type", odd(text("Pass"))), field("Type", text("Go")), field("Result", odd(api.Value{Kind: 9})), field("End", odd(truth(true))), field("End", truth(false)), field("Result", number("1", 0))))
	v := odd(object(field("States", odd(object(field("s\xff", a), field("s\ufffd", number("1", 0))))), field("StartAt", odd(text("s\x80"))), field("StartAt", number("1", 0)), field("States", null())))
	reads(t, v, api.Machine{Start: "s\ufffd", States: []api.State{{Name: "s\ufffd", Type: api.Pass, HasFixed: true}}})

	faults(t, object(field("States", object(field("\xff'", api.Value{Kind: -3, Text: "x"}))), field("StartAt", text("a"))), `$.States['`+"\ufffd"+`\'']`, api.ErrKind)
	faults(t, object(field("States", odd(list())), field("StartAt", odd(null()))), "$.StartAt", api.ErrKind)
	faults(t, object(field("States", odd(list())), field("StartAt", text("\xff"))), "$.States", api.ErrKind)
	faults(t, odd(text("x")), "$", api.ErrKind)
	faults(t, odd(api.Value{Kind: 17}), "$", api.ErrKind)
}

// P8.1: names that a place must quote.
func TestQuotedPlaces(t *testing.T) {
	for name, step := range map[string]string{"a": ".a", "a-b_9": ".a-b_9", "7": ".7", "x y": "['x y']", "it's": `['it\'s']`, `\`: `['\\']`, "é": "['é']", "a.b": "['a.b']", "[0]": "['[0]']", "$": "['$']", "\n\x00": "['\n\x00']", "\"": `['"']`} {
		in := func(v api.Value) api.Value {
			return object(field("StartAt", text("a")), field("States", object(field(name, v))))
		}
		faults(t, in(null()), "$.States"+step, api.ErrKind)
		faults(t, in(object()), "$.States"+step+".Type", api.ErrLacks)
		faults(t, in(value(`{"Type": "Map", "End": true, "Iterator": {}}`)), "$.States"+step+".Iterator.StartAt", api.ErrLacks)
		faults(t, in(object(field("Type", text("Parallel")), field("Branches", list(in(object(field("Type", text("Fail")), field(name, null()))))))), "$.States"+step+".Branches[0].States"+step+step, api.ErrField)
		faults(t, object(field(name, null())), "$"+step, api.ErrField)
	}
}

// nest puts a value into so many lists.
func nest(v api.Value, times int) api.Value {
	for range times {
		v = list(v)
	}
	return v
}

// P8.1: nested to the bound, and beyond it; what is deeper than a machine may be is told of the whole, ahead of all else.
func TestDeep(t *testing.T) {
	with := func(parameters api.Value) api.Value {
		return object(field("StartAt", text("a")), field("States", object(field("a", object(field("Type", text("Pass")), field("End", truth(true)), field("Parameters", parameters))))))
	}
	reads(t, with(nest(null(), 61)), api.Machine{Start: "a", States: []api.State{{Name: "a", Type: api.Pass, HasParameters: true, Parameters: nest(null(), 61)}}})
	faults(t, with(nest(null(), 62)), "$", api.ErrDeep)
	faults(t, with(nest(list(), 61)), "$", api.ErrDeep)
	faults(t, with(nest(object(), 61)), "$", api.ErrDeep)
	for _, x := range []struct {
		v    api.Value
		want error
	}{
		{nest(null(), 64), api.ErrKind}, {nest(null(), 65), api.ErrDeep}, {nest(list(), 63), api.ErrKind}, {nest(list(), 64), api.ErrDeep}, {nest(null(), 1<<16-1), api.ErrDeep},
	} {
		faults(t, x.v, "$", x.want)
	}
	faults(t, object(field("A", nest(null(), 63))), "$.A", api.ErrField)
	faults(t, object(field("A", nest(null(), 64))), "$", api.ErrDeep)
	faults(t, object(field("A", null()), field("A", nest(null(), 99))), "$.A", api.ErrField) // of one name the first counts

	machines := func(times int, inner string) string {
		for range times {
			inner = `{"StartAt":"a","States":{"a":{"Type":"Map","End":true,"Iterator":` + inner + `}}}`
		}
		return inner
	}
	where := "$" + strings.Repeat(".States.a.Iterator", 20)
	m, err := def.Read(value(machines(20, `{"StartAt":"z","States":{"z":{"Type":"Fail"}}}`)))
	if err != nil {
		t.Fatal(err)
	}
	for range 20 {
		m = m.States[0].Parts[0]
	}
	if !alike(m, api.Machine{Start: "z", States: []api.State{{Name: "z", Type: api.Fail}}}) {
		t.Errorf("%+v", m)
	}
	faults(t, value(machines(20, `{"StartAt":"z","States":{"z":{"Type":"Go"}}}`)), where+".States.z.Type", api.ErrRange)
	faults(t, value(machines(20, `[]`)), where, api.ErrKind)
	rules := `{"Variable":"$","IsNull":1}`
	for range 57 {
		rules = `{"Not":` + rules + `}`
	}
	rules = choosing(`[{"Next":"b","Not":` + rules + `}]`)
	faults(t, value(rules), "$.States.a.Choices[0]"+strings.Repeat(".Not", 58)+".IsNull", api.ErrKind)
}
