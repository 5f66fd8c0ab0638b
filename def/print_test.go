package def_test

import (
	"math"
	"reflect"
	"testing"

	"voyage/api"
	"voyage/def"
	"voyage/json"
)

// prints wants that a machine is told by this text, in the one form.
func prints(t *testing.T, m api.Machine, want string) {
	t.Helper()
	got := def.Print(m)
	if json.Print(got) != json.Print(value(want)) || !alike(got, json.Norm(got)) {
		t.Errorf("Print(%+v):\n%s, want\n%s", m, json.Print(got), want)
	}
}

// printsState wants that a state, alone in a machine, is told by this text.
func printsState(t *testing.T, s api.State, want string) {
	t.Helper()
	s.Name = "a"
	prints(t, api.Machine{Start: "a", States: []api.State{s}}, alone(want))
}

// P8.2: all that each type has.
func TestPrintEveryType(t *testing.T) {
	prints(t, api.Machine{Start: "pass", States: everyState()}, `{"StartAt": "pass",
"States": {
	"pass": {"Type": "Pass", "Next": "task", "InputPath": "$.in", "OutputPath": null, "ResultPath": "$.a['b c'][0]", "Parameters": {"x.$": "$.y", "b": 10, "a": [1.5]}, "Result": [null, {}]},
	"task": {"Type": "Task", "End": true, "InputPath": null, "OutputPath": "$$.out[-1]", "ResultPath": null, "Parameters": null, "ResultSelector": {"z.$": "$"}, "Resource": "do it",
		"Retry": [{"ErrorEquals": ["A", "", "B"], "IntervalSeconds": 0, "MaxAttempts": 2147483647, "BackoffRate": -1.5, "MaxDelaySeconds": 60}, {"ErrorEquals": [], "IntervalSeconds": 1, "MaxAttempts": 3, "BackoffRate": 2}],
		"Catch": [{"ErrorEquals": ["States.ALL"], "Next": "fail", "ResultPath": "$.error"}, {"ErrorEquals": [], "Next": "x", "ResultPath": null}, {"ErrorEquals": ["C"], "Next": "y"}]},
	"choice": {"Type": "Choice", "InputPath": "$", "OutputPath": "$", "Default": "wait",
		"Choices": [
			{"Next": "n1", "And": [{"Or": []}, {"Not": {"Variable": "$.v", "StringEquals": "s"}}, {"Variable": "$$", "IsPresent": false}]},
			{"Next": "n2", "Variable": "$['']", "NumericLessThanEqualsPath": "$$.limit[-2]"},
			{"Next": "n3", "Variable": "$.t", "TimestampGreaterThan": "2020-01-01T01:00:00.50+01:00"}]},
	"wait 1": {"Type": "Wait", "Next": "z", "InputPath": "$.w", "OutputPath": "$.w", "Seconds": 120},
	"wait 2": {"Type": "Wait", "End": true, "SecondsPath": "$$.s"},
	"wait 3": {"Type": "Wait", "Next": "z", "Timestamp": "2020-01-01T00:00:00.5Z"},
	"wait 4": {"Type": "Wait", "End": true, "TimestampPath": "$.t[0]"},
	"succeed": {"Type": "Succeed", "InputPath": "$.s", "OutputPath": null},
	"fail": {"Type": "Fail", "Error": "E", "Cause": "because"},
	"parallel": {"Type": "Parallel", "Next": "map", "InputPath": "$.p", "OutputPath": "$.p", "ResultPath": "$", "Parameters": 1, "ResultSelector": [],
		"Branches": [{"StartAt": "q", "States": {}}, {"StartAt": "r", "States": {"r": {"Type": "Succeed"}, "p": {"Type": "Fail"}}}]},
	"map": {"Type": "Map", "End": true, "InputPath": "$.m", "OutputPath": "$.m", "ResultPath": "$.m", "Parameters": "$", "ResultSelector": true, "Retry": [{"ErrorEquals": ["R"], "IntervalSeconds": 1, "MaxAttempts": 3, "BackoffRate": 2}], "Catch": [{"ErrorEquals": ["R"], "Next": "m"}],
		"Iterator": {"StartAt": "i", "States": {"i": {"Type": "Pass", "End": true}}}, "ItemsPath": "$$.items", "MaxConcurrency": 4}
}}`)
}

// P8.2: of a state without anything, by its type.
func TestPrintLeast(t *testing.T) {
	prints(t, api.Machine{}, `{"StartAt": "", "States": {}}`)
	prints(t, api.Machine{States: []api.State{{}}}, `{"StartAt": "", "States": {"": {"Type": ""}}}`)
	for kind, want := range []string{
		`{"Type": ""}`,
		`{"Type": "Pass", "End": true}`,
		`{"Type": "Task", "End": true, "Resource": ""}`,
		`{"Type": "Choice", "Choices": []}`,
		`{"Type": "Wait", "End": true}`,
		`{"Type": "Succeed"}`,
		`{"Type": "Fail"}`,
		`{"Type": "Parallel", "End": true, "Branches": []}`,
		`{"Type": "Map", "End": true, "Iterator": {"StartAt": "", "States": {}}}`,
		`{"Type": ""}`,
	} {
		printsState(t, api.State{Type: kind}, want)
	}
}

// full is a state with all that there is.
func full(kind int) api.State {
	return api.State{Type: kind, Next: "n", Input: at("$.i"), Output: at("$.o"), Result: at("$.r"), Parameters: number("1", 0), Selector: number("2", 0), HasParameters: true, HasSelector: true, HasFixed: true, Fixed: number("3", 0), Resource: "res",
		Retry: []api.Retrier{{}}, Catch: []api.Catcher{{}}, Rules: []api.Rule{{Op: 2}}, Default: "d", Seconds: 4, Until: api.Instant{Sec: 5}, AtPath: at("$.w"), WaitKind: 2, Error: "e", Cause: "c", Parts: []api.Machine{{Start: "1"}, {Start: "2"}}, Items: at("$.x"), Most: 6}
}

// P8.2: what a type doesn't have isn't told.
func TestPrintFull(t *testing.T) {
	ways := `"InputPath": "$.i", "OutputPath": "$.o"`
	made := ways + `, "Next": "n", "ResultPath": "$.r", "Parameters": 1`
	tried := made + `, "ResultSelector": 2, "Retry": [{"ErrorEquals": [], "IntervalSeconds": 0, "MaxAttempts": 0, "BackoffRate": 0}], "Catch": [{"ErrorEquals": [], "Next": ""}]`
	want := map[int]string{
		api.Pass: `{"Type": "Pass", "Result": 3, ` + made + `}`, api.Task: `{"Type": "Task", "Resource": "res", ` + tried + `}`,
		api.Choice: `{"Type": "Choice", "Choices": [{"Next": "", "Or": []}], "Default": "d", ` + ways + `}`, api.Wait: `{"Type": "Wait", "Next": "n", "SecondsPath": "$.w", ` + ways + `}`,
		api.Succeed: `{"Type": "Succeed", ` + ways + `}`, api.Fail: `{"Type": "Fail", "Error": "e", "Cause": "c"}`,
		api.Parallel: `{"Type": "Parallel", "Branches": [{"StartAt": "1", "States": {}}, {"StartAt": "2", "States": {}}], ` + tried + `}`,
		api.Map:      `{"Type": "Map", "Iterator": {"StartAt": "1", "States": {}}, "ItemsPath": "$.x", "MaxConcurrency": 6, ` + tried + `}`,
	}
	for kind, text := range want {
		printsState(t, full(kind), text)
	}
	for _, kind := range []int{0, -1, 9, 10, 64, 65, 128, 256, 1 << 32, 1<<32 + 1, math.MaxInt, math.MinInt, math.MinInt + 1} {
		printsState(t, full(kind), `{"Type": ""}`)
	}
}

// P8.2: of several states with one name the first counts; the others stand by rising names.
func TestPrintNames(t *testing.T) {
	prints(t, api.Machine{Start: "\xff", States: []api.State{{Name: "b", Type: api.Fail}, {Name: "a", Type: api.Succeed}, {Name: "b", Type: api.Pass}, {Name: "\xff", Type: api.Fail, Error: "\x80"}, {Name: "\ufffd", Type: api.Pass}, {Name: "", Type: api.Succeed}, {Name: "x y"}}},
		`{"StartAt": "\ufffd", "States": {"": {"Type": "Succeed"}, "a": {"Type": "Succeed"}, "b": {"Type": "Fail"}, "x y": {"Type": ""}, "\ufffd": {"Type": "Fail", "Error": "\ufffd"}}}`)
}

// P8.2: paths: null, without Set, of any form.
func TestPrintPaths(t *testing.T) {
	long := api.Path{Set: true}
	for range 70 {
		long.Steps = append(long.Steps, api.Step{Name: "\xff", Place: 7})
	}
	for _, x := range []struct {
		p    api.Path
		want string // empty: it isn't told
		text string // by path.Text
	}{
		{api.Path{}, ``, `"$"`}, {api.Path{Set: true}, `"$"`, `"$"`}, {nothing(), `null`, `""`}, {api.Path{Nothing: true}, ``, `""`}, {api.Path{Nothing: true, Set: true, Context: true, Steps: []api.Step{{Name: "a"}}}, `null`, `""`},
		{api.Path{Context: true, Steps: []api.Step{{Name: "a"}}}, ``, `"$$.a"`}, {api.Path{Set: true, Context: true, Steps: []api.Step{{Name: "x", Place: -5000000000, IsAt: true}, {Name: "it's", Place: 3}}}, `"$$[-5000000000]['it\\'s']"`, `"$$[-5000000000]['it\\'s']"`},
	} {
		told := func(name string) string {
			if x.want == "" {
				return ""
			}
			return `, "` + name + `": ` + x.want
		}
		printsState(t, api.State{Type: api.Succeed, Input: x.p}, `{"Type": "Succeed"`+told("InputPath")+`}`)
		printsState(t, api.State{Type: api.Succeed, Output: x.p}, `{"Type": "Succeed"`+told("OutputPath")+`}`)
		printsState(t, api.State{Type: api.Pass, Result: x.p}, `{"Type": "Pass", "End": true`+told("ResultPath")+`}`)
		printsState(t, api.State{Type: api.Map, Items: x.p}, `{"Type": "Map", "End": true, "Iterator": {"StartAt": "", "States": {}}`+told("ItemsPath")+`}`)
		printsState(t, api.State{Type: api.Task, Catch: []api.Catcher{{Result: x.p}}}, `{"Type": "Task", "End": true, "Resource": "", "Catch": [{"ErrorEquals": [], "Next": ""`+told("ResultPath")+`}]}`)
		printsState(t, api.State{Type: api.Wait, WaitKind: 2, AtPath: x.p}, `{"Type": "Wait", "End": true, "SecondsPath": `+x.text+`}`)
		printsState(t, api.State{Type: api.Wait, WaitKind: 4, AtPath: x.p}, `{"Type": "Wait", "End": true, "TimestampPath": `+x.text+`}`)
		printsState(t, api.State{Type: api.Choice, Rules: []api.Rule{{Op: 26, Var: x.p, At: x.p}}}, `{"Type": "Choice", "Choices": [{"Next": "", "Variable": `+x.text+`, "BooleanEqualsPath": `+x.text+`}]}`)
	}
	got, _ := json.Get(def.Print(api.Machine{States: []api.State{{Type: api.Succeed, Input: long}}}), "States")
	got, _ = json.Get(got, "")
	got, _ = json.Get(got, "InputPath")
	if len(got.Text) != 1+70*len("['\ufffd']") {
		t.Errorf("%q", got.Text)
	}
}

// P8.2: the four of a Wait, and numbers of any size.
func TestPrintWaits(t *testing.T) {
	s := api.State{Type: api.Wait, Next: "n", Seconds: -7, AtPath: at("$.p"), Until: moment("2020-01-01T00:00:00.10+01:00")}
	for kind, want := range map[int]string{1: `, "Seconds": -7`, 2: `, "SecondsPath": "$.p"`, 3: `, "Timestamp": "2019-12-31T23:00:00.1Z"`, 4: `, "TimestampPath": "$.p"`, 0: ``, 5: ``, -1: ``, math.MaxInt: ``, math.MinInt: ``} {
		s.WaitKind = kind
		printsState(t, s, `{"Type": "Wait", "Next": "n"`+want+`}`)
	}
	for until, want := range map[api.Instant]string{{}: "1970-01-01T00:00:00Z", {Sec: -1, Nano: 2500000000}: "1970-01-01T00:00:01.5Z", {Sec: 253402300800}: "", {Sec: -62167219201}: "", {Sec: math.MaxInt64, Nano: math.MaxInt}: ""} {
		printsState(t, api.State{Type: api.Wait, WaitKind: 3, Until: until}, `{"Type": "Wait", "End": true, "Timestamp": "`+want+`"}`)
	}
	for n, want := range map[int]string{0: `0`, 10: `10`, -1: `-1`, math.MaxInt64: `9223372036854775807`, math.MinInt64: `-9223372036854775808`} {
		printsState(t, api.State{Type: api.Wait, WaitKind: 1, Seconds: n}, `{"Type": "Wait", "End": true, "Seconds": `+want+`}`)
		printsState(t, api.State{Type: api.Parallel, Retry: []api.Retrier{{Interval: n, Most: n, Rate: api.Dec{Digits: "0x20", Exp: 1}}}}, `{"Type": "Parallel", "End": true, "Branches": [], "Retry": [{"ErrorEquals": [], "IntervalSeconds": `+want+`, "MaxAttempts": `+want+`, "BackoffRate": 200}]}`)
		if n != 0 {
			printsState(t, api.State{Type: api.Parallel, Retry: []api.Retrier{{MaxDelay: n}}}, `{"Type": "Parallel", "End": true, "Branches": [], "Retry": [{"ErrorEquals": [], "IntervalSeconds": 0, "MaxAttempts": 0, "BackoffRate": 0, "MaxDelaySeconds": `+want+`}]}`)
			printsState(t, api.State{Type: api.Map, Most: n}, `{"Type": "Map", "End": true, "Iterator": {"StartAt": "", "States": {}}, "MaxConcurrency": `+want+`}`)
		}
	}
}

// P8.2: what is had, and what isn't; values in the one form.
func TestPrintHad(t *testing.T) {
	odd := object(field("b", number("010", 1)), field("a\xff", list()), field("b", null()))
	for _, x := range []struct {
		s    api.State
		want string
	}{
		{api.State{Type: api.Pass, Parameters: odd, Fixed: odd, Selector: odd}, `{"Type": "Pass", "End": true}`},
		{api.State{Type: api.Pass, Parameters: odd, HasParameters: true}, `{"Type": "Pass", "End": true, "Parameters": {"a\ufffd": [], "b": 100}}`},
		{api.State{Type: api.Pass, Fixed: odd, HasFixed: true}, `{"Type": "Pass", "End": true, "Result": {"a\ufffd": [], "b": 100}}`},
		{api.State{Type: api.Pass, Fixed: api.Value{Kind: 9, Text: "x"}, HasFixed: true}, `{"Type": "Pass", "End": true, "Result": null}`},
		{api.State{Type: api.Task, Selector: odd, HasSelector: true, HasFixed: true}, `{"Type": "Task", "End": true, "Resource": "", "ResultSelector": {"a\ufffd": [], "b": 100}}`},
		{api.State{Type: api.Task, Catch: []api.Catcher{{Errors: []string{"\xff", ""}, Next: "\xfe"}}}, `{"Type": "Task", "End": true, "Resource": "", "Catch": [{"ErrorEquals": ["\ufffd", ""], "Next": "\ufffd"}]}`},
		{api.State{Type: api.Fail, Error: "e"}, `{"Type": "Fail", "Error": "e"}`},
		{api.State{Type: api.Fail, Cause: "c"}, `{"Type": "Fail", "Cause": "c"}`},
		{api.State{Type: api.Map, Parts: []api.Machine{{}, {Start: "2"}}}, `{"Type": "Map", "End": true, "Iterator": {"StartAt": "", "States": {}}}`},
	} {
		printsState(t, x.s, x.want)
	}
}

// P8.2: rules, by Op.
func TestPrintRules(t *testing.T) {
	parts := []api.Rule{{Op: 38, Next: "no", Var: at("$.q"), With: truth(true)}, {Op: 2, Next: "no"}}
	rules := func(r api.Rule, want string) {
		t.Helper()
		printsState(t, api.State{Type: api.Choice, Rules: []api.Rule{r}}, `{"Type": "Choice", "Choices": [{"Next": "n"`+want+`}]}`)
		printsState(t, api.State{Type: api.Choice, Rules: []api.Rule{{Op: 1, Next: "n", All: []api.Rule{r}}}}, `{"Type": "Choice", "Choices": [{"Next": "n", "And": [{`+want[min(len(want), 2):]+`}]}]}`)
	}
	for name, o := range operands() {
		r := api.Rule{Op: o.number, Next: "n", All: parts, Var: at("$.v"), With: number("010", 0), At: at("$.w")}
		want := `, "Variable": "$.v", "` + name + `": 10`
		switch o.kind {
		case "rules":
			want = `, "` + name + `": [{"Variable": "$.q", "IsPresent": true}, {"Or": []}]`
		case "rule":
			want = `, "` + name + `": {"Variable": "$.q", "IsPresent": true}`
		case "path":
			want = `, "Variable": "$.v", "` + name + `": "$.w"`
		}
		rules(r, want)
	}
	for _, op := range []int{0, -1, 43, 44, 64, 256, 1 << 32, 1<<32 + 1, math.MaxInt, math.MinInt} {
		rules(api.Rule{Op: op, Next: "n", All: parts, Var: at("$.v"), With: number("1", 0), At: at("$.w")}, `, "Variable": "$.v"`)
	}
	rules(api.Rule{Op: 1, Next: "n"}, `, "And": []`)
	rules(api.Rule{Op: 3, Next: "n"}, `, "Not": {}`)
	rules(api.Rule{Op: 3, Next: "n", All: []api.Rule{{Op: 3, Next: "no"}}}, `, "Not": {"Not": {}}`)
	rules(api.Rule{Op: 15, Next: "n", Var: nothing(), With: list(api.Value{Kind: 9}, text("\xff"))}, `, "Variable": "", "NumericEquals": [null, "\ufffd"]`)
}

// P8.3: the first state of a name, byte by byte.
func TestFind(t *testing.T) {
	m := api.Machine{Start: "b", States: []api.State{{Name: "a", Type: 1}, {Name: "b", Type: 2}, {Name: "b", Type: 3}, {Name: "\xff", Type: 4}, {Name: "\ufffd", Type: 5}, {Name: "\xfe", Type: 6}, {Name: "c", Parts: []api.Machine{{States: []api.State{{Name: "inner"}}}}}, {Name: "a", Type: 8}}}
	for name, kind := range map[string]int{"a": 1, "b": 2, "\xff": 4, "\ufffd": 5, "\xfe": 6} {
		if s, is := def.Find(m, name); !is || !alike(s, api.State{Name: name, Type: kind}) {
			t.Errorf("%q: %+v, %v", name, s, is)
		}
	}
	for _, name := range []string{"", "d", "B", "a ", "inner", "\xfd", "ab"} {
		if s, is := def.Find(m, name); is || !reflect.DeepEqual(s, api.State{}) {
			t.Errorf("%q: %+v, %v", name, s, is)
		}
	}
	if s, is := def.Find(api.Machine{States: []api.State{{Type: 77}}}, ""); !is || s.Type != 77 {
		t.Errorf("without a name: %+v, %v", s, is)
	}
	if s, is := def.Find(api.Machine{}, ""); is || !reflect.DeepEqual(s, api.State{}) {
		t.Errorf("no states: %+v, %v", s, is)
	}
}

// P8.3: values and numbers in the one form, all else as it stands, also what the type doesn't have, and in the parts.
func TestFindForms(t *testing.T) {
	odd := object(field("b", number("010", 1)), field("a\xff", list(api.Value{Kind: 9, Text: "x"})), field("b", null()))
	norm := object(field("a\ufffd", list(null())), field("b", number("1", 2)))
	p := api.Path{Nothing: true, Context: true, Steps: []api.Step{{Name: "\xff", Place: 3}, {Name: "x", Place: -1, IsAt: true}}}
	state := func(v api.Value, rate api.Dec, parts []api.Machine) api.State {
		leaf := api.Rule{Op: 99, Var: p, With: v, At: p, Next: "\xff"}
		return api.State{Name: "\xff", Type: 77, Next: "\xfe", Input: p, Output: p, Result: p, Parameters: v, Selector: v, Fixed: v, HasSelector: true, Resource: "\x80",
			Retry: []api.Retrier{{Errors: []string{"\xff"}, Interval: -1, Most: -2, Rate: rate, MaxDelay: -3}}, Catch: []api.Catcher{{Errors: []string{"\xfe", "a"}, Result: p, Next: "\xff"}},
			Rules: []api.Rule{{Op: -1, All: []api.Rule{{Op: 3, All: []api.Rule{leaf, leaf}}}, Var: p, With: v, At: p}, leaf}, Default: "\xff", Seconds: -4, Until: api.Instant{Sec: 7, Nano: -2500000000}, AtPath: p, WaitKind: 99, Error: "\xff", Cause: "\xfe", Parts: parts, Items: p, Most: -5}
	}
	parts := func(v api.Value, rate api.Dec) []api.Machine {
		return []api.Machine{{Start: "\xff", States: []api.State{state(v, rate, nil), state(v, rate, []api.Machine{{States: []api.State{state(v, rate, nil)}}})}}, {Start: "x"}}
	}
	rate := api.Dec{Neg: true, Digits: "0x150", Exp: -1}
	one := api.Dec{Neg: true, Digits: "15"}
	got, is := def.Find(api.Machine{States: []api.State{{Name: "a"}, state(odd, rate, parts(odd, rate))}}, "\xff")
	if want := state(norm, one, parts(norm, one)); !is || !alike(got, want) {
		t.Errorf("%+v, %v, want\n%+v", got, is, want)
	}
}

// R1: as deep as the document's bound lets machines and rules be.
func TestPrintFarBeyondMaxDepth(t *testing.T) {
	const deep = 1 << 16
	branches, iterators, rules := api.Machine{}, api.Machine{}, api.Rule{Op: 4, Next: "z"}
	for range deep {
		branches = api.Machine{Start: "a", States: []api.State{{Name: "a", Type: api.Parallel, Parts: []api.Machine{branches}}}}
		iterators = api.Machine{Start: "a", States: []api.State{{Name: "a", Type: api.Map, Parts: []api.Machine{iterators}}}}
		rules = api.Rule{Op: 1 + len(rules.Next), All: []api.Rule{rules}}
	}
	for _, x := range []struct {
		m    api.Machine
		want int
	}{
		{branches, 4*deep + 2}, {iterators, 3*deep + 2}, {api.Machine{States: []api.State{{Name: "a", Type: api.Choice, Rules: []api.Rule{rules}}}}, 2*deep + 5},
	} {
		v := def.Print(x.m)
		if got := json.Depth(v); got != x.want {
			t.Errorf("%d, want %d", got, x.want)
		}
		faults(t, v, "$", api.ErrDeep)
		s, is := def.Find(x.m, "a")
		levels := 0
		for ; len(s.Parts) > 0 && len(s.Parts[0].States) > 0; levels++ {
			s = s.Parts[0].States[0]
		}
		if !is || levels != deep-1 && levels != 0 {
			t.Errorf("%v, %d", is, levels)
		}
	}
}
