package dry_test

import (
	"fmt"
	"math"
	"slices"
	"strings"
	"testing"

	"voyage/api"
	"voyage/json"
)

// takenCare gives a machine of a state with a retrier and a catcher that would take anything, and of what that leads to.
func takenCare(s api.State) api.Machine {
	s.Retry, s.Catch = []api.Retrier{retries(5, all)}, []api.Catcher{catches("Z", "$", all)}
	return machine(s, pass("Z", ""))
}

// TestFail holds that a Fail FAILS by its Error and Cause as they stand, in one step, whatever In would say.
func TestFail(t *testing.T) {
	for _, x := range [][2]string{{"e", "why"}, {"", ""}, {"e\xff", "\xfe"}, {outOfFuel, "c"}, {strings.Repeat("x", api.MaxText), "c"}} {
		s := api.State{Name: "F", Type: api.Fail, Error: x[0], Cause: x[1], Input: way("$.gone"), Next: "Z"}
		wants(t, "Fail", of(takenCare(s), "1"), api.Report{Error: x[0], Cause: x[1], Steps: 1})
	}
}

// TestNoInput holds that what is wrong with a state's input is TROUBLE in one step, of all types but Fail; of Task, Parallel and Map it is retried and caught.
func TestNoInput(t *testing.T) {
	long := api.Value{Kind: api.Object, Fields: []api.Field{{Name: "a", Value: text(strings.Repeat("x", api.MaxText))}}}
	for kind := api.Pass; kind <= api.Map; kind++ {
		if kind == api.Fail {
			continue
		}
		s := api.State{Name: "A", Type: kind, WaitKind: 1, Default: "A", Parts: []api.Machine{passing()}, Input: way("$.gone"), HasFixed: true}
		wants(t, "InputPath", of(machine(s), "{}"), ended(runtime, 1))
		s.Input = api.Path{}
		wants(t, "not sound", given{m: machine(s), in: long, fuel: 5}, ended(limit, 1))
		s.Input = way("$.gone")
		tried := kind == api.Task || kind >= api.Parallel
		if tried {
			wants(t, "retried and caught", of(takenCare(s), "{}"), done(`{"Error":"States.Runtime","Cause":""}`, 5*3+1+1))
		} else {
			wants(t, "neither retried nor caught", of(takenCare(s), "{}"), ended(runtime, 1))
		}
		s.Input, s.HasParameters, s.Parameters = api.Path{}, true, val(`{"x.$":"$.gone"}`)
		if kind != api.Map { // its Parameters are for its parts
			wants(t, "Parameters", of(machine(s), "{}"), ended(parameters, 1))
		}
	}
}

// TestPass holds what a Pass does, in one step.
func TestPass(t *testing.T) {
	in := `{"a":[1],"b":2}`
	s := pass("A", "")
	wants(t, "nothing told", of(machine(s), in), done(in, 1))
	s.Fixed = val("3")
	wants(t, "Fixed without HasFixed", of(machine(s), in), done(in, 1))
	s.HasFixed = true
	wants(t, "Fixed", of(machine(s), in), done("3", 1))
	s.Result = way("$.c")
	wants(t, "Fixed at a path", of(machine(s), in), done(`{"a":[1],"b":2,"c":3}`, 1))
	s.Output = way("$.a[0]")
	wants(t, "and out of it", of(machine(s), in), done("1", 1))
	s.HasFixed, s.Input, s.Output, s.Result = false, way("$.a"), api.Path{}, api.Path{}
	wants(t, "InputPath", of(machine(s), in), done("[1]", 1))
	s.HasParameters, s.Parameters = true, val(`{"x.$":"$[0]"}`)
	wants(t, "Parameters", of(machine(s), in), done(`{"x":1}`, 1))
	s.HasSelector, s.Selector = true, val(`{"y.$":"$.x"}`)
	wants(t, "ResultSelector", of(machine(s), in), done(`{"y":1}`, 1))
	s.Next = "B"
	wants(t, "and what is next", of(machine(s, gives("B", `"b"`, "")), in), done(`"b"`, 2))
	odd := pass("A", "")
	odd.HasFixed, odd.Fixed = true, api.Value{Kind: api.List, Text: "x", List: []api.Value{{Kind: api.Number, Num: api.Dec{Digits: "0500"}}, {Kind: 9, Truth: true}, text("\xff")}}
	wants(t, "not in the one form", of(machine(odd), in), done(`[5e2,null,"\ufffd"]`, 1))
	odd.Fixed = text(strings.Repeat("x", api.MaxText))
	wants(t, "not sound", of(takenCare(odd), in), ended(limit, 1))
	bad := pass("A", "B")
	bad.Result = way("$.b.c")
	wants(t, "ResultPath", of(takenCare(bad), in), ended(resultPath, 1))
	bad.Result, bad.Output = api.Path{}, way("$.q")
	wants(t, "OutputPath", of(takenCare(bad), in), ended(runtime, 1))
}

// TestSucceed holds that a Succeed is the end, whatever its Next, in one step.
func TestSucceed(t *testing.T) {
	for _, next := range []string{"", "S", "gone"} {
		s := api.State{Name: "S", Type: api.Succeed, Next: next, HasFixed: true, Fixed: val("9")}
		wants(t, "Succeed", of(machine(s), `{"a":[1]}`).fuelled(1), done(`{"a":[1]}`, 1))
		s.Input, s.Output = way("$.a"), way("$[0]")
		wants(t, "with paths", of(machine(s), `{"a":[1]}`), done("1", 1))
		s.Output = way("$[1]")
		wants(t, "a path that leads nowhere", of(takenCare(s), `{"a":[1]}`), ended(runtime, 1))
	}
}

// is is a rule that holds if the number at a path is n.
func is(where, n, next string) api.Rule {
	return api.Rule{Op: 15, Var: way(where), With: val(n), Next: next}
}

// TestChoice holds to which state a Choice leads, in one step, and what is wrong with it.
func TestChoice(t *testing.T) {
	broken := is("$.gone", "1", "B")
	for i, x := range []struct {
		rules []api.Rule
		other string
		want  string // the state, or an error
	}{
		{[]api.Rule{is("$.n", "3", "B"), is("$.n", "3", "D")}, "E", "B"},
		{[]api.Rule{is("$.n", "4", "B"), is("$.n", "3", "D")}, "E", "D"},
		{[]api.Rule{is("$.n", "4", "B"), is("$.n", "5", "D")}, "E", "E"},
		{nil, "E", "E"}, {[]api.Rule{is("$.n", "3", "B")}, "", "B"},
		{[]api.Rule{is("$.n", "4", "B")}, "", noChoice}, {nil, "", noChoice},
		{[]api.Rule{broken, is("$.n", "3", "B")}, "E", runtime}, {[]api.Rule{is("$.n", "3", "B"), broken}, "E", "B"}, {[]api.Rule{is("$.n", "4", "B"), broken}, "", runtime},
		{[]api.Rule{{Op: 99, Next: "B"}}, "E", runtime}, {[]api.Rule{{Op: 1, Next: "B"}}, "E", "B"}, {[]api.Rule{{Op: 3, All: []api.Rule{is("$.n", "4", "gone")}, Next: "D"}}, "E", "D"},
		{[]api.Rule{is("$.n", "3", "gone")}, "E", runtime}, {[]api.Rule{is("$.n", "3", "")}, "E", noChoice}, {nil, "gone", runtime}, {nil, "N", runtime},
		{[]api.Rule{is("$$.State.RetryCount", "0", "B")}, "E", "B"}, {[]api.Rule{is("$$.Execution.Input.n", "3", "B")}, "E", "B"},
	} {
		s := api.State{Name: "C", Type: api.Choice, Rules: x.rules, Default: x.other, Next: "gone"}
		m := takenCare(s)
		for _, name := range []string{"B", "D", "E"} {
			m.States = append(m.States, gives(name, `"`+name+`"`, ""))
		}
		m.States = append(m.States, api.State{Name: "N"})
		if strings.HasPrefix(x.want, "States.") {
			wants(t, "a Choice that leads nowhere", of(m, `{"n":3}`), ended(x.want, 1))
			continue
		}
		r, _ := of(m, `{"n":3}`).run()
		if !same(r, done(`"`+x.want+`"`, 2)) {
			t.Errorf("%d: %s, want %s", i, shown(r, nil), x.want)
		}
	}
}

// TestChoiceOfNoName holds that a next state whose name is empty is none, whether a rule that holds gave it or Default did, and though a state be called so; Default isn't asked where a rule holds.
func TestChoiceOfNoName(t *testing.T) {
	broken := is("$.gone", "1", "B")
	within := func(op int, inner string) api.Rule {
		return api.Rule{Op: op, All: []api.Rule{is("$.n", "3", inner)}}
	}
	leads, none, breaks := done(`"B"`, 2), ended(noChoice, 1), ended(runtime, 1)
	for i, x := range []struct {
		rules []api.Rule
		other string
		want  api.Report
	}{
		{[]api.Rule{is("$.n", "3", "")}, "", none}, {[]api.Rule{is("$.n", "3", "")}, "B", none}, {[]api.Rule{is("$.n", "3", "")}, "gone", none},
		{[]api.Rule{is("$.n", "3", ""), is("$.n", "3", "B")}, "B", none}, {[]api.Rule{is("$.n", "4", "B"), is("$.n", "3", "")}, "B", none},
		{[]api.Rule{is("$.n", "3", ""), broken}, "B", none}, {[]api.Rule{broken, is("$.n", "3", "")}, "B", breaks},
		{[]api.Rule{within(1, "B")}, "B", none}, {[]api.Rule{within(2, "B")}, "B", none}, {[]api.Rule{within(3, "B"), within(1, "B")}, "B", none},
		{[]api.Rule{is("$.n", "4", "")}, "B", leads}, {[]api.Rule{is("$.n", "4", ""), is("$.n", "3", "B")}, "", leads},
		{[]api.Rule{is("$.n", "4", "")}, "", none}, {nil, "", none},
	} {
		s := api.State{Name: "C", Type: api.Choice, Rules: x.rules, Default: x.other, Next: "B"}
		for _, beside := range [][]api.State{nil, {gives("", "0", "")}, {{Type: api.Succeed}}, {{Type: 9}}} {
			m := takenCare(s)
			m.States = slices.Concat(m.States, []api.State{gives("B", `"B"`, "")}, beside)
			wants(t, fmt.Sprint(i), of(m, `{"n":3}`), x.want)
		}
	}
}

// TestChoiceOfNoNameWithin holds what goes ahead of a next state whose name is empty and what doesn't, and that the error goes up to whoever has a retrier or a catcher for it.
func TestChoiceOfNoNameWithin(t *testing.T) {
	in := `{"n":3}`
	s := api.State{Name: "C", Type: api.Choice, Rules: []api.Rule{is("$.n", "3", "")}, Default: "B", Output: way("$.q")}
	m := machine(s, pass("B", ""), pass("", ""))
	wants(t, "it comes ahead of Out", of(m, in), ended(noChoice, 1))
	wants(t, "and of the fuel", of(m, in).fuelled(1), ended(noChoice, 1))
	m.States[0].Input = way("$.q")
	wants(t, "In comes ahead of it", of(m, in), ended(runtime, 1))
	m.States[0].Input, m.States[0].Output = api.Path{}, api.Path{}
	p := parallel("P", "", passing(), m)
	lost := contest(at(1, 1), 1, 1)
	wants(t, "a part", of(machine(p), in), ended(noChoice, 3), lost)
	p.Retry = []api.Retrier{retries(1, runtime), retries(1, noChoice)}
	again := contest(at(1, 2), 1, 1)
	wants(t, "retried", of(machine(p), in), ended(noChoice, 3+2+3), lost, again)
	p.Retry, p.Catch = nil, []api.Catcher{catches("Z", "$", runtime), catches("Z", "$", noChoice)}
	caught := `{"Error":"States.NoChoiceMatched","Cause":""}`
	wants(t, "caught", of(machine(p, pass("Z", "")), in), done(caught, 4), lost)
	p.Catch[1].Next = "" // a name as any other: of a catcher nothing is said of an empty one
	wants(t, "caught, to a state without a name", of(machine(p, pass("", "")), in), done(caught, 4), lost)
	wants(t, "caught, to none", of(machine(p), in), ended(runtime, 3), lost)
}

// TestChoicePaths holds that rules go by what In gave, that what Out gives is what the next state has, and which of them is asked first.
func TestChoicePaths(t *testing.T) {
	in := `{"a":{"n":3},"n":4}`
	s := api.State{Name: "C", Type: api.Choice, Rules: []api.Rule{is("$.n", "3", "B")}, Default: "D", Input: way("$.a")}
	other := pass("D", "")
	other.Result, other.HasFixed, other.Fixed = way("$.d"), true, val("1")
	m := machine(s, pass("B", ""), other)
	wants(t, "InputPath", of(m, in), done(`{"n":3}`, 2))
	m.States[0].Output = way("$.n")
	wants(t, "OutputPath", of(m, in), done("3", 2))
	m.States[0].Output, m.States[0].Result = api.Path{}, way("$.r")
	wants(t, "ResultPath", of(m, in), done(`{"a":{"n":3},"n":4,"r":{"n":3}}`, 2))
	m.States[0].Result = api.Path{}
	m.States[0].HasParameters, m.States[0].Parameters = true, val(`{"n":5}`)
	wants(t, "Parameters", of(m, in), done(`{"n":5,"d":1}`, 2))
	m.States[0].Output = way("$.q")
	wants(t, "Out has an error", of(m, in), ended(runtime, 1))
	m.States[0].Default = ""
	wants(t, "no rule holds, which comes ahead of Out", of(m, in), ended(noChoice, 1))
	m.States[0].Default, m.States[0].Output, m.States[0].Result = "gone", api.Path{}, way("$.n.x")
	wants(t, "Out comes ahead of the next state", of(m, in), ended(resultPath, 1))
}

// TestWait holds of each WaitKind which Waits have a moment: these FINISH with what In gave, in two steps; the others have TROUBLE in one.
func TestWait(t *testing.T) {
	const good, none = true, false
	long := `"1970-01-01T00:00:20.` + strings.Repeat("0", 5000) + `Z"`
	for _, x := range []struct {
		s    api.State
		at   string
		want bool
	}{
		{api.State{WaitKind: 1, Seconds: 5}, "1", good}, {api.State{WaitKind: 1}, "1", good}, {api.State{WaitKind: 1, Seconds: -5}, "1", good}, {api.State{WaitKind: 1, Seconds: math.MaxInt}, `"x"`, good}, {api.State{WaitKind: 1, Seconds: math.MinInt}, "1", good},
		{api.State{WaitKind: 2}, "0", good}, {api.State{WaitKind: 2}, "5.0", good}, {api.State{WaitKind: 2}, "500e-2", good}, {api.State{WaitKind: 2}, "2147483648", good}, {api.State{WaitKind: 2}, "2147483647", good},
		{api.State{WaitKind: 2}, "-1", none}, {api.State{WaitKind: 2}, "0.5", none}, {api.State{WaitKind: 2}, "5.5", none}, {api.State{WaitKind: 2}, "2147483649", none}, {api.State{WaitKind: 2}, "1e9999", none}, {api.State{WaitKind: 2}, "-1e9999", none}, {api.State{WaitKind: 2}, "9223372036854775808", none},
		{api.State{WaitKind: 2}, `"5"`, none}, {api.State{WaitKind: 2}, "null", none}, {api.State{WaitKind: 2}, "true", none}, {api.State{WaitKind: 2}, "[5]", none}, {api.State{WaitKind: 2}, `"1970-01-01T00:00:20Z"`, none},
		{api.State{WaitKind: 3, Until: api.Instant{Sec: 5}}, "1", good}, {api.State{WaitKind: 3}, `"x"`, good}, {api.State{WaitKind: 3, Until: api.Instant{Sec: math.MinInt64, Nano: math.MinInt}}, "1", good}, {api.State{WaitKind: 3, Until: api.Instant{Sec: math.MaxInt64, Nano: math.MaxInt}}, "1", good},
		{api.State{WaitKind: 4}, `"1970-01-01T00:00:20Z"`, good}, {api.State{WaitKind: 4}, `"0000-01-01T00:00:00.000000001+00:01"`, good}, {api.State{WaitKind: 4}, `"9999-12-31T23:59:59-00:01"`, good},
		{api.State{WaitKind: 4}, `"1970-01-01T00:00:20"`, none}, {api.State{WaitKind: 4}, `"2023-02-29T00:00:00Z"`, none}, {api.State{WaitKind: 4}, `""`, none}, {api.State{WaitKind: 4}, "20", none}, {api.State{WaitKind: 4}, "null", none}, {api.State{WaitKind: 4}, `["1970-01-01T00:00:20Z"]`, none}, {api.State{WaitKind: 4}, long, none},
		{api.State{WaitKind: 0, Seconds: 5}, "5", none}, {api.State{WaitKind: 5, Seconds: 5}, "5", none}, {api.State{WaitKind: -1}, "5", none}, {api.State{WaitKind: math.MinInt}, "5", none}, {api.State{WaitKind: math.MaxInt}, "5", none},
	} {
		in := `{"s":` + x.at + `}`
		x.s.Name, x.s.Type, x.s.AtPath = "W", api.Wait, way("$.s")
		report := ended(runtime, 1)
		if x.want {
			report = done(in, 2)
		}
		wants(t, in, of(takenCare(x.s), in), report)
		x.s.AtPath, x.s.Input = way("$$.Execution.Input.s"), way("null")
		if x.want {
			report = done("{}", 2)
		}
		wants(t, in+", of the context", of(takenCare(x.s), in), report)
		x.s.AtPath, x.s.Input = api.Path{}, way("$.s")
		if x.want {
			report = done(x.at, 2)
		}
		wants(t, in+", no path", of(takenCare(x.s), in), report)
	}
}

// TestWaitPaths holds a Wait whose path leads nowhere, one whose path is null, and what it leaves.
func TestWaitPaths(t *testing.T) {
	for _, kind := range []int{2, 4} {
		s := api.State{Name: "W", Type: api.Wait, WaitKind: kind, AtPath: way("$.q"), Seconds: 5, Until: api.Instant{Sec: 5}}
		wants(t, "nowhere", of(machine(s), "{}"), ended(runtime, 1))
		s.AtPath = way("null")
		wants(t, "null", of(machine(s), "5"), ended(runtime, 1))
	}
	s := api.State{Name: "W", Type: api.Wait, WaitKind: 2, AtPath: way("$.s"), HasParameters: true, Parameters: val(`{"s":4,"t.$":"$"}`), Result: way("$.r"), Output: way("$.r"), Next: "B"}
	wants(t, "behind Parameters", of(machine(s, pass("B", "")), `{"a":1}`), done(`{"s":4,"t":{"a":1}}`, 3))
	s.Output = way("$.q")
	wants(t, "Out has an error", of(takenCare(s), `{"a":1}`), ended(runtime, 2))
}

// TestTask holds what a Task does, in two steps.
func TestTask(t *testing.T) {
	in := `{"a":[1]}`
	s := task("T", "B")
	s.Input, s.Result, s.HasSelector, s.Selector = way("$.a"), way("$.r"), true, val(`{"s.$":"$.v"}`)
	m := machine(s, pass("B", ""))
	wants(t, "told", of(m, in).answers(answer("rT", 0, fine(`{"v":7}`))), done(`{"a":[1],"r":{"s":7}}`, 3))
	wants(t, "a selector that can't be filled", of(m, in).answers(answer("rT", 0, fine("{}"))), ended(parameters, 2))
	wants(t, "an error", of(m, in).answers(answer("rT", 0, wrong("e", "why"))), api.Report{Error: "e", Cause: "why", Steps: 2})
	wants(t, "an error without a name", of(m, in).answers(answer("rT", 0, wrong("", "why"))), api.Report{Cause: "why", Steps: 2})
	m.States[0].Next = "gone"
	wants(t, "to nowhere", of(m, in).answers(answer("rT", 0, fine(`{"v":7}`))), ended(runtime, 2))
	s.Next, s.HasSelector = "", false
	wants(t, "at the end", of(machine(s), in).answers(answer("rT", 0, fine("8"))), done(`{"a":[1],"r":8}`, 2))
}

// TestState holds which state of a name is entered: the first, if it is of one of the eight types; names are the same bytes, or others.
func TestState(t *testing.T) {
	for kind := -1; kind <= 10; kind++ {
		m := api.Machine{Start: "A", States: []api.State{pass("B", ""), {Name: "A", Type: kind, WaitKind: 1, Resource: "r", Default: "B", Parts: []api.Machine{passing()}}, gives("A", "9", "")}}
		g := of(m, "[]").answers(answer("r", 0, fine("7")))
		report, contests := g.run()
		want := []api.Report{ended(runtime, 0), ended(runtime, 0), done("[]", 1), done("7", 2), done("[]", 2), done("[]", 2), done("[]", 1), ended("", 1), done("[[]]", 3), done("[]", 2), ended(runtime, 0), ended(runtime, 0)}[kind+1]
		if !same(report, want) || len(contests) > 0 {
			t.Errorf("of the type %d: %s, want %s", kind, shown(report, contests), shown(want, nil))
		}
	}
	for _, start := range []string{"", "b", "a ", "A", "a\xff"} {
		m := machine(pass("a", ""), pass("a\ufffd", ""))
		m.Start = start
		wants(t, start, of(m, "1"), ended(runtime, 0))
	}
	for _, name := range []string{"", "x y", "\xff\xfe"} {
		wants(t, name, of(machine(pass(name, "")), "1"), done("1", 1))
	}
	wants(t, "no fuel goes ahead of no state", of(api.Machine{}, "1").fuelled(0), ended(outOfFuel, 0))
}

// TestInput holds that the input counts as the value that it tells, and that it need not be sound but where a state works on it.
func TestInput(t *testing.T) {
	deep := val("[]")
	for range 80 {
		deep = api.Value{Kind: api.List, List: []api.Value{deep}}
	}
	odd := api.Value{Kind: api.Object, Text: "x", Fields: []api.Field{{Name: "b\xff", Value: api.Value{Kind: api.Number, Num: api.Dec{Digits: "0150"}}}, {Name: "a", Value: text("\xff")}, {Name: "a", Value: text("second")}}}
	wants(t, "not in the one form", given{m: passing(), in: odd, fuel: 5}, done(`{"a":"\ufffd","b\ufffd":15e1}`, 1))
	wants(t, "no kind", given{m: passing(), in: api.Value{Kind: 9, Text: "x"}, fuel: 5}, done("null", 1))
	wants(t, "too deep", given{m: passing(), in: deep, fuel: 5}, ended(limit, 1))
	long := api.Value{Kind: api.List, List: []api.Value{text(strings.Repeat("x", api.MaxText)), val("5")}}
	s := pass("A", "")
	s.Input = way("$[1]")
	wants(t, "too long, but not where it is worked on", given{m: machine(s), in: long, fuel: 5}, done("5", 1))
	just := text(strings.Repeat("x", api.MaxText-2))
	if r, _ := (given{m: passing(), in: just, fuel: 5}).run(); !same(r, api.Report{Fine: true, Output: json.Norm(just), Steps: 1}) {
		t.Errorf("as long as may be: %s", shown(r, nil))
	}
	wants(t, "one byte more", given{m: passing(), in: text(just.Text + "x"), fuel: 5}, ended(limit, 1))
}
