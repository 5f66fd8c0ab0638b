package valid_test

import (
	"math"
	"slices"
	"strconv"
	"strings"
	"testing"

	"voyage/api"
	"voyage/def"
	"voyage/json"
	"voyage/valid"
)

// word tells which error it is.
func word(err error) string {
	switch err {
	case api.ErrTarget:
		return "ErrTarget"
	case api.ErrTwice:
		return "ErrTwice"
	case api.ErrReach:
		return "ErrReach"
	case api.ErrRange:
		return "ErrRange"
	case api.ErrOrder:
		return "ErrOrder"
	case api.ErrLacks:
		return "ErrLacks"
	case api.ErrDeep:
		return "ErrDeep"
	}
	return "another error"
}

// told tells faults, each by its error and its place.
func told(t *testing.T, faults []api.Fault) []string {
	t.Helper()
	var lines []string
	for _, f := range faults {
		if f.At != 0 {
			t.Errorf("At: %+v", f)
		}
		lines = append(lines, word(f.Err)+" "+f.Where)
	}
	return lines
}

// finds wants just these faults of a machine, in this order.
func finds(t *testing.T, m api.Machine, want ...string) {
	t.Helper()
	if got := told(t, valid.Check(m)); !slices.Equal(got, want) {
		t.Errorf("%.3000s:\n%s, want\n%s", json.Print(def.Print(m)), strings.Join(got, "\n"), strings.Join(want, "\n"))
	}
}

// machine is that of a text.
func machine(text string) api.Machine {
	v, err := json.Parse(text)
	if err != nil {
		panic(text + ": " + err.Error())
	}
	m, err := def.Read(v)
	if err != nil {
		panic(text + ": " + err.Error())
	}
	return m
}

// of is a machine that starts with the first of these states.
func of(states ...api.State) api.Machine { return api.Machine{Start: states[0].Name, States: states} }

// named is a state that gets this name.
func named(name string, s api.State) api.State {
	s.Name = name
	return s
}

// state wants these faults of a state that is called a; places are told from it on. Beside it stand b, from which one comes to all of them and which is an end, and z, another end, so that no fault is theirs.
func state(t *testing.T, s api.State, want ...string) {
	t.Helper()
	for i := range want {
		want[i] = strings.Replace(want[i], " ", " $.States.a", 1)
	}
	b := api.State{Name: "b", Type: api.Task, Catch: []api.Catcher{{Errors: []string{"e"}, Next: "z"}, {Errors: []string{"f"}, Next: "a"}}}
	finds(t, api.Machine{Start: "b", States: []api.State{named("a", s), b, {Name: "z", Type: api.Succeed}}}, want...)
}

func number(digits string, exp int) api.Dec { return api.Dec{Digits: digits, Exp: exp} }

// retrier is one without faults.
func retrier(errors ...string) api.Retrier {
	return api.Retrier{Errors: errors, Interval: 1, Most: 3, Rate: number("2", 0)}
}

// The chapter's examples.
func TestExamples(t *testing.T) {
	for _, x := range []struct {
		text string
		want []string
	}{
		{`{"StartAt": "a", "States": {"a": {"Type": "Pass", "End": true}}}`, nil},
		{`{"StartAt": "b", "States": {"a": {"Type": "Pass", "Next": "c"}}}`, []string{"ErrTarget $.StartAt", "ErrTarget $.States.a.Next", "ErrReach $.States.a"}},
		{`{"StartAt": "a", "States": {"a": {"Type": "Pass", "Next": "b"}, "b": {"Type": "Pass", "Next": "a"}, "c": {"Type": "Succeed"}}}`, []string{"ErrReach $.States.a", "ErrReach $.States.b", "ErrReach $.States.c"}},
		{`{"StartAt": "a", "States": {"a": {"Type": "Choice", "Choices": [], "Default": "a"}}}`, []string{"ErrRange $.States.a.Choices", "ErrReach $.States.a"}},
		{`{"StartAt": "x y", "States": {"x y": {"Type": "Task", "Resource": "r", "End": true, "Retry": [{"ErrorEquals": ["States.ALL", "e"]}, {"ErrorEquals": [], "BackoffRate": 0.5}]}}}`,
			[]string{"ErrOrder $.States['x y'].Retry[0].ErrorEquals", "ErrOrder $.States['x y'].Retry[0]", "ErrRange $.States['x y'].Retry[1].ErrorEquals", "ErrRange $.States['x y'].Retry[1].BackoffRate"}},
		{`{"StartAt": "a", "States": {"a": {"Type": "Parallel", "End": true, "Branches": [{"StartAt": "b", "States": {}}]}}}`, []string{"ErrTarget $.States.a.Branches[0].StartAt"}},
	} {
		finds(t, machine(x.text), x.want...)
	}
	finds(t, of(api.State{Name: "a", Type: api.Map}), "ErrLacks $.States.a.Iterator")
}

// wide is a machine without faults with states of all types, whose ways go by all that leads on.
const wide = `{"StartAt": "begin", "States": {
	"begin": {"Type": "Pass", "Next": "choose"},
	"choose": {"Type": "Choice", "Choices": [
		{"Next": "work", "And": [{"Or": [{"Variable": "$", "IsNull": true}]}, {"Not": {"Not": {"Variable": "$.x", "NumericEquals": 1}}}]},
		{"Next": "begin", "Variable": "$.y", "StringEqualsPath": "$.z"}], "Default": "rest"},
	"work": {"Type": "Task", "Resource": "r", "Next": "begin",
		"Retry": [{"ErrorEquals": ["e", "f"]}, {"ErrorEquals": ["States.ALL"], "IntervalSeconds": 5, "MaxAttempts": 0, "BackoffRate": 1.5, "MaxDelaySeconds": 60}],
		"Catch": [{"ErrorEquals": ["e"], "Next": "side"}, {"ErrorEquals": ["States.ALL"], "Next": "lost"}]},
	"rest": {"Type": "Wait", "Seconds": 5, "Next": "rest 2"}, "rest 2": {"Type": "Wait", "SecondsPath": "$.s", "Next": "rest 3"},
	"rest 3": {"Type": "Wait", "Timestamp": "2020-01-01T00:00:00Z", "Next": "rest 4"}, "rest 4": {"Type": "Wait", "TimestampPath": "$.t", "End": true},
	"side": {"Type": "Parallel", "Next": "each", "Branches": [{"StartAt": "begin", "States": {"begin": {"Type": "Fail"}}}, {"StartAt": "x", "States": {"x": {"Type": "Pass", "End": true}}}]},
	"each": {"Type": "Map", "Next": "won", "MaxConcurrency": 3, "Iterator": {"StartAt": "won", "States": {"won": {"Type": "Task", "Resource": "r", "End": true, "Catch": [{"ErrorEquals": ["e"], "Next": "also"}]}, "also": {"Type": "Succeed"}}}},
	"won": {"Type": "Succeed"}, "lost": {"Type": "Fail", "Error": "E"}}}`

// P9.1: a machine with all types and no faults.
func TestWithoutFaults(t *testing.T) {
	finds(t, machine(wide))
}

// P9.1, P9.2: faults of several sorts, in order: a state's own ones, in its fields' order, ahead of the next state's; a part's within them; those of reaching last, in each machine.
func TestOrder(t *testing.T) {
	inner := api.Machine{Start: "no", States: []api.State{{Name: "q", Type: api.Pass, Next: "r"}, {Name: "p", Type: 77}}}
	m := api.Machine{Start: "nowhere", States: []api.State{
		{Name: "z", Type: api.Parallel, Next: "n1",
			Retry: []api.Retrier{{Errors: []string{"States.ALL", "States.ALL"}, Interval: 0, Most: -1, Rate: number("", 0), MaxDelay: -1}, retrier("e")},
			Catch: []api.Catcher{{Errors: []string{"States.ALL", "e"}, Next: "n2"}, {Next: "n3"}},
			Parts: []api.Machine{inner, {Start: "a", States: []api.State{{Name: "a", Type: api.Fail}}}, inner}},
		{Name: "z", Type: api.Pass, Next: "n9"},
		{Name: "c", Type: api.Choice, Rules: []api.Rule{{Op: 1, Next: "n4"}, {Op: 3, Next: "z"}}, Default: "n5"},
		{Name: "m", Type: api.Map, Next: "n6", Retry: []api.Retrier{{}}, Catch: []api.Catcher{{Next: "n7"}}, Most: -1},
		{Name: "c", Type: 99},
		{Name: "w", Type: api.Wait, Next: "n8", WaitKind: 1, Seconds: -1},
	}}
	finds(t, m,
		"ErrTarget $.StartAt",
		"ErrTarget $.States.z.Next",
		"ErrOrder $.States.z.Retry[0].ErrorEquals", "ErrOrder $.States.z.Retry[0]",
		"ErrRange $.States.z.Retry[0].IntervalSeconds", "ErrRange $.States.z.Retry[0].MaxAttempts", "ErrRange $.States.z.Retry[0].BackoffRate", "ErrRange $.States.z.Retry[0].MaxDelaySeconds",
		"ErrOrder $.States.z.Catch[0].ErrorEquals", "ErrOrder $.States.z.Catch[0]", "ErrTarget $.States.z.Catch[0].Next",
		"ErrRange $.States.z.Catch[1].ErrorEquals", "ErrTarget $.States.z.Catch[1].Next",
		"ErrTarget $.States.z.Branches[0].StartAt", "ErrTarget $.States.z.Branches[0].States.q.Next", "ErrRange $.States.z.Branches[0].States.p.Type", "ErrReach $.States.z.Branches[0].States.q", "ErrReach $.States.z.Branches[0].States.p",
		"ErrTarget $.States.z.Branches[2].StartAt", "ErrTarget $.States.z.Branches[2].States.q.Next", "ErrRange $.States.z.Branches[2].States.p.Type", "ErrReach $.States.z.Branches[2].States.q", "ErrReach $.States.z.Branches[2].States.p",
		"ErrTwice $.States.z",
		"ErrRange $.States.c.Choices[0].And", "ErrTarget $.States.c.Choices[0].Next", "ErrRange $.States.c.Choices[1].Not", "ErrTarget $.States.c.Default",
		"ErrTarget $.States.m.Next",
		"ErrRange $.States.m.Retry[0].ErrorEquals", "ErrRange $.States.m.Retry[0].IntervalSeconds", "ErrRange $.States.m.Retry[0].BackoffRate",
		"ErrRange $.States.m.Catch[0].ErrorEquals", "ErrTarget $.States.m.Catch[0].Next",
		"ErrRange $.States.m.MaxConcurrency", "ErrLacks $.States.m.Iterator",
		"ErrTwice $.States.c",
		"ErrTarget $.States.w.Next", "ErrRange $.States.w.Seconds",
		"ErrReach $.States.z", "ErrReach $.States.c", "ErrReach $.States.m", "ErrReach $.States.w")
}

// P9.1: Start that isn't there, that is there twice, and machines without states.
func TestStart(t *testing.T) {
	finds(t, api.Machine{}, "ErrTarget $.StartAt")
	finds(t, api.Machine{Start: "a"}, "ErrTarget $.StartAt")
	end := api.State{Name: "a", Type: api.Succeed}
	finds(t, api.Machine{Start: "b", States: []api.State{end}}, "ErrTarget $.StartAt", "ErrReach $.States.a")
	finds(t, api.Machine{Start: "A", States: []api.State{end}}, "ErrTarget $.StartAt", "ErrReach $.States.a")
	finds(t, api.Machine{Start: "a", States: []api.State{end, end}}, "ErrTwice $.States.a")
	finds(t, api.Machine{States: []api.State{{Type: api.Fail}}})
	finds(t, api.Machine{States: []api.State{end}}, "ErrTarget $.StartAt", "ErrReach $.States.a")
	finds(t, api.Machine{Start: "b", States: []api.State{end, {Name: "b", Type: api.Pass, Next: "a"}}})
}

// P9.1: states of one name: the first one counts, of the others nothing does.
func TestTwice(t *testing.T) {
	on := func(name, next string) api.State { return api.State{Name: name, Type: api.Pass, Next: next} }
	finds(t, of(on("a", "b"), on("b", ""), on("b", "none"), on("a", "a"), api.State{Name: "b", Type: 9}), "ErrTwice $.States.b", "ErrTwice $.States.a", "ErrTwice $.States.b")
	finds(t, of(on("a", "a"), on("a", "")), "ErrTwice $.States.a", "ErrReach $.States.a")
	finds(t, of(on("a", ""), on("a", "b"), on("b", "")), "ErrTwice $.States.a", "ErrReach $.States.b")
	finds(t, of(on("a", "b"), on("b", "a"), api.State{Name: "b", Type: api.Succeed}), "ErrTwice $.States.b", "ErrReach $.States.a", "ErrReach $.States.b")
	part := of(on("a", ""), on("a", ""))
	finds(t, of(api.State{Name: "a", Type: api.Map, Parts: []api.Machine{part}}, on("a", "a")), "ErrTwice $.States.a.Iterator.States.a", "ErrTwice $.States.a")
	finds(t, of(on("a", ""), api.State{Name: "a", Type: api.Parallel, Parts: []api.Machine{part}}), "ErrTwice $.States.a")
}

// P9.1: what can't be come to, what comes to no end, and both.
func TestReach(t *testing.T) {
	on := func(name, next string) api.State { return api.State{Name: name, Type: api.Pass, Next: next} }
	finds(t, of(on("a", "a")), "ErrReach $.States.a")
	finds(t, of(on("a", "b"), on("b", "a")), "ErrReach $.States.a", "ErrReach $.States.b")
	finds(t, of(on("a", ""), on("b", "")), "ErrReach $.States.b")
	finds(t, of(on("a", ""), on("b", "b")), "ErrReach $.States.b")
	finds(t, of(on("a", ""), on("b", "a"), on("c", "b")), "ErrReach $.States.b", "ErrReach $.States.c")
	finds(t, of(on("a", ""), on("b", "c"), on("c", "b")), "ErrReach $.States.b", "ErrReach $.States.c")
	finds(t, of(on("a", "c"), on("b", ""), on("c", "b")))
	finds(t, of(on("a", "none")), "ErrTarget $.States.a.Next", "ErrReach $.States.a")
	finds(t, of(on("a", "b"), on("b", "none")), "ErrTarget $.States.b.Next", "ErrReach $.States.a", "ErrReach $.States.b")
	finds(t, of(on("a", "b"), api.State{Name: "b", Type: 0}), "ErrRange $.States.b.Type", "ErrReach $.States.a", "ErrReach $.States.b")
	finds(t, of(api.State{Name: "a", Type: api.Succeed, Next: "b"}, on("b", "")), "ErrReach $.States.b")
	finds(t, of(api.State{Name: "a", Type: api.Choice, Rules: []api.Rule{{Op: 37, Next: "b"}, {Op: 37, Next: "c"}}}, on("b", "b"), on("c", "")), "ErrReach $.States.b")
	for _, kind := range []int{api.Pass, api.Task, api.Wait, api.Parallel, api.Map} {
		part := []api.Machine{of(on("x", ""))}
		finds(t, of(on("a", "b"), api.State{Name: "b", Type: kind, WaitKind: 1, Parts: part}))
		finds(t, of(on("a", "b"), api.State{Name: "b", Type: kind, WaitKind: 1, Parts: part, Next: "c"}, on("c", "")))
		finds(t, of(on("a", "b"), api.State{Name: "b", Type: kind, WaitKind: 1, Parts: part, Next: "a"}), "ErrReach $.States.a", "ErrReach $.States.b")
	}
}

// P9.1: a part's states are its own: neither does it lead out of itself, nor does anything lead into it.
func TestPartsApart(t *testing.T) {
	on := func(name, next string) api.State { return api.State{Name: name, Type: api.Pass, Next: next} }
	for kind, at := range map[int]string{api.Map: "$.States.p.Iterator", api.Parallel: "$.States.p.Branches[0]"} {
		p := func(next string, m api.Machine) api.State {
			return api.State{Name: "p", Type: kind, Next: next, Parts: []api.Machine{m}}
		}
		finds(t, of(p("out", of(on("in", "out"))), on("out", "")), "ErrTarget "+at+".States.in.Next", "ErrReach "+at+".States.in")
		finds(t, of(p("in", of(on("in", "")))), "ErrTarget $.States.p.Next", "ErrReach $.States.p")
		finds(t, of(p("", api.Machine{Start: "p", States: []api.State{on("in", "")}})), "ErrTarget "+at+".StartAt", "ErrReach "+at+".States.in")
		finds(t, of(p("", of(on("p", "")))))
		finds(t, of(p("", of(on("in", "in")))), "ErrReach "+at+".States.in")
	}
}

// P9.1, P9.2: ways that go by catchers, rules and Default, each of them alone.
func TestWays(t *testing.T) {
	end := api.State{Name: "b", Type: api.Succeed}
	part := []api.Machine{of(end)}
	for _, kind := range []int{api.Task, api.Parallel, api.Map} {
		caught := api.State{Name: "a", Type: kind, Parts: part, Next: "a", Catch: []api.Catcher{{Errors: []string{"x"}, Next: "a"}, {Errors: []string{"e"}, Next: "b"}}}
		finds(t, of(caught, end))
		caught.Next = ""
		finds(t, of(caught, end))
		caught.Catch = caught.Catch[:1]
		finds(t, of(caught, end), "ErrReach $.States.b")
		finds(t, of(api.State{Name: "a", Type: kind, Parts: part, Rules: []api.Rule{{Next: "b"}}, Default: "b"}, end), "ErrReach $.States.b")
	}
	for _, kind := range []int{api.Pass, api.Wait} {
		finds(t, of(api.State{Name: "a", Type: kind, WaitKind: 1, Catch: []api.Catcher{{Next: "b"}}, Rules: []api.Rule{{Next: "b"}}, Default: "b"}, end), "ErrReach $.States.b")
	}
	asked := api.Rule{Op: 37, Next: "a"}
	finds(t, of(api.State{Name: "a", Type: api.Choice, Rules: []api.Rule{asked, {Op: 37, Next: "b"}}}, end))
	finds(t, of(api.State{Name: "a", Type: api.Choice, Rules: []api.Rule{asked}, Default: "b"}, end))
	finds(t, of(api.State{Name: "a", Type: api.Choice, Rules: []api.Rule{asked}}, end), "ErrReach $.States.a", "ErrReach $.States.b")
	finds(t, of(api.State{Name: "a", Type: api.Choice, Rules: []api.Rule{asked}, Next: "b", Catch: []api.Catcher{{Next: "b"}}}, end), "ErrReach $.States.a", "ErrReach $.States.b")
	within := api.Rule{Op: 1, Next: "a", All: []api.Rule{{Op: 37, Next: "b"}}}
	finds(t, of(api.State{Name: "a", Type: api.Choice, Rules: []api.Rule{within}}, end), "ErrReach $.States.a", "ErrReach $.States.b")
	for _, kind := range []int{api.Succeed, api.Fail, 0, 9} {
		m := of(api.State{Name: "a", Type: kind, Next: "b", Catch: []api.Catcher{{Next: "b"}}, Rules: []api.Rule{{Next: "b"}}, Default: "b"}, end)
		if got := told(t, valid.Check(m)); got[len(got)-1] != "ErrReach $.States.b" {
			t.Error(kind, got)
		}
	}
}

// P9.1, P9.2: a name without bytes is a state's as any other; of Next and Default it names none.
func TestEmptyNames(t *testing.T) {
	none := api.State{Type: api.Succeed}
	finds(t, of(api.State{Name: "a", Type: api.Pass}, none), "ErrReach $.States['']")
	finds(t, of(api.State{Name: "a", Type: api.Choice, Rules: []api.Rule{{Op: 37, Next: "a"}}}, none), "ErrReach $.States.a", "ErrReach $.States['']")
	finds(t, of(api.State{Name: "a", Type: api.Choice, Rules: []api.Rule{{Op: 37}}}, none))
	finds(t, of(api.State{Name: "a", Type: api.Choice, Rules: []api.Rule{{Op: 37}}}), "ErrTarget $.States.a.Choices[0].Next", "ErrReach $.States.a")
	finds(t, of(api.State{Name: "a", Type: api.Task, Catch: []api.Catcher{{Errors: []string{""}}}}, none))
	finds(t, of(api.State{Name: "a", Type: api.Task, Catch: []api.Catcher{{Errors: []string{""}}}}), "ErrTarget $.States.a.Catch[0].Next")
}

// Names are one just if they are the same bytes; in places they are told as a path's text tells them.
func TestNames(t *testing.T) {
	on := func(name, next string) api.State { return api.State{Name: name, Type: api.Pass, Next: next} }
	finds(t, of(on("\xff", "\xfe"), on("\xfe", "\ufffd"), on("\ufffd", "")))
	finds(t, of(on("\xff", "\xfe")), "ErrTarget $.States['\ufffd'].Next", "ErrReach $.States['\ufffd']")
	finds(t, of(on("\xff", ""), on("\ufffd", "")), "ErrReach $.States['\ufffd']")
	finds(t, of(on("\xff", ""), on("\xff", "")), "ErrTwice $.States['\ufffd']")
	finds(t, api.Machine{Start: "\xff", States: []api.State{on("\ufffd", "")}}, "ErrTarget $.StartAt", "ErrReach $.States['\ufffd']")
	finds(t, of(on("\xe2\x82", ""), on("a\xe2\x82b", "")), "ErrReach $.States['a\ufffd\ufffdb']")
	finds(t, of(on("a", ""), on("e\u0301", ""), on("\u00e9", "")), "ErrReach $.States['e\u0301']", "ErrReach $.States['\u00e9']")
	for name, place := range map[string]string{"b": ".b", "B-_9": ".B-_9", "": "['']", "x y": "['x y']", "it's": `['it\'s']`, `\`: `['\\']`, "$": "['$']", "a.b": "['a.b']", "[0]": "['[0]']", "\n": "['\n']", "é": "['é']", "0": ".0"} {
		finds(t, of(on("a", ""), on(name, "")), "ErrReach $.States"+place)
		m := of(named(name, api.State{Type: api.Parallel, Next: "none", Parts: []api.Machine{of(on("a", ""), on(name, ""))}}))
		finds(t, m, "ErrTarget $.States"+place+".Next", "ErrReach $.States"+place+".Branches[0].States"+place, "ErrReach $.States"+place)
	}
	finds(t, of(on("a", "A"), on("a ", "")), "ErrTarget $.States.a.Next", "ErrReach $.States.a", "ErrReach $.States['a ']")
	all := func(name string) api.State {
		return api.State{Type: api.Task, Retry: []api.Retrier{retrier(name, "e")}}
	}
	for _, name := range []string{"States.All", "states.ALL", "States.ALL ", " States.ALL", "States.AL", "States.ALLL", "", "States.ALL\x00", "\xff"} {
		state(t, all(name))
	}
	state(t, all("States.ALL"), "ErrOrder .Retry[0].ErrorEquals")
}

// P9.2: a Type that is none: nothing else of the state counts.
func TestType(t *testing.T) {
	full := api.State{Name: "a", Next: "none", Retry: []api.Retrier{{}}, Catch: []api.Catcher{{Next: "none"}}, Rules: []api.Rule{{Op: 1, Next: "none"}}, Default: "none", WaitKind: 9, Seconds: -1, Parts: []api.Machine{{}}, Most: -1}
	for _, kind := range []int{0, -1, 9, 10, math.MaxInt, math.MinInt, 1<<32 + 1} {
		full.Type = kind
		finds(t, of(full), "ErrRange $.States.a.Type", "ErrReach $.States.a")
	}
	full.Type = api.Succeed
	finds(t, of(full))
	full.Type = api.Fail
	finds(t, of(full))
}

// P9.2: fields that a Type doesn't have don't count.
func TestOtherFields(t *testing.T) {
	full := api.State{Name: "a", Next: "n", Retry: []api.Retrier{{}}, Catch: []api.Catcher{{Next: "n"}}, Default: "n", WaitKind: 9, Seconds: -1, Most: -1}
	next := "ErrTarget $.States.a.Next"
	tries := []string{next, "ErrRange $.States.a.Retry[0].ErrorEquals", "ErrRange $.States.a.Retry[0].IntervalSeconds", "ErrRange $.States.a.Retry[0].BackoffRate", "ErrRange $.States.a.Catch[0].ErrorEquals", "ErrTarget $.States.a.Catch[0].Next"}
	reach := "ErrReach $.States.a"
	for kind, want := range map[int][]string{
		api.Pass:     {next, reach},
		api.Task:     append(slices.Clone(tries), reach),
		api.Choice:   {"ErrRange $.States.a.Choices", "ErrTarget $.States.a.Default", reach},
		api.Wait:     {next, "ErrRange $.States.a", reach},
		api.Succeed:  nil,
		api.Fail:     nil,
		api.Parallel: append(slices.Clone(tries), "ErrRange $.States.a.Branches", reach),
		api.Map:      append(slices.Clone(tries), "ErrRange $.States.a.MaxConcurrency", "ErrLacks $.States.a.Iterator", reach),
	} {
		full.Type = kind
		finds(t, of(full), want...)
	}
	full.Rules, full.Parts, full.WaitKind = []api.Rule{{Op: 2, Next: "n"}}, []api.Machine{{}}, 1
	for kind, want := range map[int][]string{
		api.Pass:   {next, reach},
		api.Task:   append(slices.Clone(tries), reach),
		api.Choice: {"ErrRange $.States.a.Choices[0].Or", "ErrTarget $.States.a.Choices[0].Next", "ErrTarget $.States.a.Default", reach},
		api.Wait:   {next, "ErrRange $.States.a.Seconds", reach},
	} {
		full.Type = kind
		finds(t, of(full), want...)
	}
}

// P9.2: the bounds of numbers, at each end and one beyond.
func TestBounds(t *testing.T) {
	const most = 2147483647
	part := []api.Machine{of(api.State{Name: "x", Type: api.Fail})}
	for _, x := range []struct {
		place       string
		least, most int
		with        func(n int) api.State
	}{
		{".Retry[0].IntervalSeconds", 1, most, func(n int) api.State {
			return api.State{Type: api.Task, Retry: []api.Retrier{{Errors: []string{"e"}, Interval: n, Rate: number("1", 0)}}}
		}},
		{".Retry[0].MaxAttempts", 0, 99, func(n int) api.State {
			return api.State{Type: api.Parallel, Parts: part, Retry: []api.Retrier{{Errors: []string{"e"}, Interval: 1, Most: n, Rate: number("1", 3)}}}
		}},
		{".Retry[1].MaxDelaySeconds", 0, most, func(n int) api.State {
			return api.State{Type: api.Map, Parts: part, Retry: []api.Retrier{retrier("e"), {Errors: []string{"States.ALL"}, Interval: 1, Rate: number("2", 0), MaxDelay: n}}}
		}},
		{".Seconds", 0, most, func(n int) api.State { return api.State{Type: api.Wait, WaitKind: 1, Seconds: n} }},
		{".MaxConcurrency", 0, most, func(n int) api.State { return api.State{Type: api.Map, Most: n, Parts: part} }},
	} {
		for _, n := range []int{x.least, x.least + 1, 50, x.most - 1, x.most} {
			state(t, x.with(n))
		}
		for _, n := range []int{x.least - 1, -1, -most - 1, math.MinInt, x.most + 1, math.MaxInt, 1 << 32, 1<<32 + 50} {
			state(t, x.with(n), "ErrRange "+x.place)
		}
	}
}

// P9.2: BackoffRate goes by the number, however it is told.
func TestRate(t *testing.T) {
	with := func(d api.Dec) api.State {
		r := retrier("e")
		r.Rate = d
		return api.State{Type: api.Task, Retry: []api.Retrier{retrier("f"), r}}
	}
	for _, d := range []api.Dec{number("1", 0), number("0100", -2), number("1x", 0), number("1"+strings.Repeat("0", 9000), -9000), number("1"+strings.Repeat("0", 8998)+"1", -8999), number("15", -1), number("999"+strings.Repeat("9", 500), -500), number("1", 3), number("1000", 0), number("100000", -2), {Digits: "1-0", Exp: 0}} {
		state(t, with(d))
	}
	for _, d := range []api.Dec{{}, number("0", 7), number("9", -1), number(strings.Repeat("9", 9000), -9000), {Neg: true, Digits: "1"}, {Neg: true, Digits: "2"}, {Neg: true, Digits: "5", Exp: 3}, number("1001", 0), number("1000"+strings.Repeat("0", 500)+"1", -501), number("1", 4), number("1", 9999), number("1", 10000), number("1", -10000), number("x", 1), number("1", math.MaxInt), number("1", math.MinInt)} {
		state(t, with(d), "ErrRange .Retry[1].BackoffRate")
	}
}

// P9.2: WaitKind.
func TestWaitKind(t *testing.T) {
	for kind := 1; kind <= 4; kind++ {
		state(t, api.State{Type: api.Wait, WaitKind: kind})
	}
	for _, kind := range []int{0, -1, 5, math.MaxInt, math.MinInt, 1<<32 + 1} {
		state(t, api.State{Type: api.Wait, WaitKind: kind}, "ErrRange ")
		state(t, api.State{Type: api.Wait, WaitKind: kind, Next: "none", Seconds: -1}, "ErrTarget .Next", "ErrRange ", "ErrReach ")
	}
	for kind := 2; kind <= 4; kind++ {
		state(t, api.State{Type: api.Wait, WaitKind: kind, Seconds: -1, Until: api.Instant{Sec: math.MinInt64, Nano: -1}, AtPath: api.Path{Nothing: true}})
	}
}

// P9.2: targets, of all that names a state.
func TestTargets(t *testing.T) {
	part := []api.Machine{of(api.State{Name: "none", Type: api.Fail})}
	for _, kind := range []int{api.Pass, api.Task, api.Wait, api.Parallel, api.Map} {
		state(t, api.State{Type: kind, WaitKind: 2, Parts: part, Next: "z"})
		state(t, api.State{Type: kind, WaitKind: 2, Parts: part, Next: "none"}, "ErrTarget .Next", "ErrReach ")
	}
	for _, kind := range []int{api.Task, api.Parallel, api.Map} {
		c := func(next string) api.Catcher { return api.Catcher{Errors: []string{"e"}, Next: next} }
		state(t, api.State{Type: kind, Parts: part, Catch: []api.Catcher{c("z"), c("a"), c("b")}})
		state(t, api.State{Type: kind, Parts: part, Catch: []api.Catcher{c("none"), c("z"), c("nowhere")}}, "ErrTarget .Catch[0].Next", "ErrTarget .Catch[2].Next")
	}
	r := func(next string) api.Rule { return api.Rule{Op: 38, Next: next} }
	state(t, api.State{Type: api.Choice, Rules: []api.Rule{r("z"), r("a")}, Default: "b"})
	state(t, api.State{Type: api.Choice, Rules: []api.Rule{r("none"), r("z"), r("nowhere")}, Default: "none"}, "ErrTarget .Choices[0].Next", "ErrTarget .Choices[2].Next", "ErrTarget .Default")
	state(t, api.State{Type: api.Choice, Default: "none"}, "ErrRange .Choices", "ErrTarget .Default", "ErrReach ")
	state(t, api.State{Type: api.Choice, Default: "z"}, "ErrRange .Choices")
	state(t, api.State{Type: api.Choice}, "ErrRange .Choices", "ErrReach ")
}

// P9.2: And and Or without any, Not of none, of one and of two, and such within each other.
func TestRules(t *testing.T) {
	r := func(op int, all ...api.Rule) api.Rule { return api.Rule{Op: op, All: all} }
	leaf := r(37)
	rules := func(want []string, all ...api.Rule) {
		t.Helper()
		for i := range all {
			if all[i].Next == "" {
				all[i].Next = "z"
			}
		}
		state(t, api.State{Type: api.Choice, Rules: all}, want...)
	}
	rules(nil, leaf, r(1, leaf), r(2, leaf, leaf), r(3, leaf))
	rules([]string{"ErrRange .Choices[0].And", "ErrRange .Choices[1].Or", "ErrRange .Choices[2].Not", "ErrRange .Choices[3].Not", "ErrRange .Choices[5].Not"}, r(1), r(2), r(3), r(3, leaf, leaf), r(3, leaf), r(3, leaf, leaf, leaf))
	rules([]string{"ErrRange .Choices[0].And[0].And", "ErrRange .Choices[0].And[1].Or", "ErrRange .Choices[0].And[2].Not"}, r(1, r(1), r(2), r(3)))
	rules([]string{"ErrRange .Choices[0].Or[1].And", "ErrRange .Choices[1].Not.Or", "ErrRange .Choices[2].Not.Not"}, r(2, leaf, r(1)), r(3, r(2)), r(3, r(3)))
	rules([]string{"ErrRange .Choices[0].Not", "ErrRange .Choices[0].Not.And"}, r(3, r(1), r(2)))
	rules([]string{"ErrRange .Choices[0].Not"}, r(3, leaf, r(1)))
	rules([]string{"ErrRange .Choices[0].Not", "ErrRange .Choices[0].Not.Not", "ErrRange .Choices[0].Not.Not.And[1].Or"}, r(3, r(3, r(1, leaf, r(2)), r(1)), leaf))
	rules([]string{"ErrRange .Choices[0].And[0].Or[0].Not", "ErrRange .Choices[0].And[0].Or[1].And", "ErrRange .Choices[0].And[1].Or"}, r(1, r(2, r(3), r(1)), r(2), leaf))
	rules([]string{"ErrRange .Choices[0].And[0].Or", "ErrRange .Choices[0].And[1].Not.And[2].Not", "ErrRange .Choices[1].Or[0].And"}, r(1, r(2), r(3, r(1, leaf, leaf, r(3)))), r(2, r(1)))
	for _, op := range []int{0, 4, 14, 37, 42, 43, -1, math.MaxInt, math.MinInt, 1<<32 + 1} {
		rules(nil, r(op), r(op, r(1), r(2), r(3)), r(1, r(op)), r(3, r(op, r(1))))
	}
	none := r(2, r(1), api.Rule{Op: 2, Next: "none"})
	none.Next = "nowhere"
	rules([]string{"ErrRange .Choices[0].Or[0].And", "ErrRange .Choices[0].Or[1].Or", "ErrTarget .Choices[0].Next", "ErrRange .Choices[1].And"}, none, r(1))
}

// P9.2: rules that are nested as deep as anything may be.
func TestDeepRules(t *testing.T) {
	deep := api.Rule{Op: 1}
	for range 1<<16 - 3 {
		deep = api.Rule{Op: 3, All: []api.Rule{deep}}
	}
	deep.Next = "z"
	state(t, api.State{Type: api.Choice, Rules: []api.Rule{deep}}, "ErrRange .Choices[0]"+strings.Repeat(".Not", 1<<16-3)+".And")
}

// P9.3: States.ALL alone, with others, twice, and not in the last one; no names at all.
func TestErrorNames(t *testing.T) {
	const all = "States.ALL"
	part := []api.Machine{of(api.State{Name: "x", Type: api.Fail})}
	for _, x := range []struct {
		names [][]string
		want  []string
	}{
		{[][]string{{"e"}}, nil},
		{[][]string{{"e", "f", "e"}, {"e"}}, nil},
		{[][]string{{all}}, nil},
		{[][]string{{"e"}, {"States.Timeout", "f"}, {all}}, nil},
		{[][]string{{}}, []string{"ErrRange [0].ErrorEquals"}},
		{[][]string{nil, {all}}, []string{"ErrRange [0].ErrorEquals"}},
		{[][]string{{all}, {}}, []string{"ErrOrder [0]", "ErrRange [1].ErrorEquals"}},
		{[][]string{{all, "e"}}, []string{"ErrOrder [0].ErrorEquals"}},
		{[][]string{{"e", all}}, []string{"ErrOrder [0].ErrorEquals"}},
		{[][]string{{"e", all, "f"}, {"e"}}, []string{"ErrOrder [0].ErrorEquals", "ErrOrder [0]"}},
		{[][]string{{all, all}}, []string{"ErrOrder [0].ErrorEquals"}},
		{[][]string{{all}, {"e"}}, []string{"ErrOrder [0]"}},
		{[][]string{{"e"}, {all}, {"f"}, {all}}, []string{"ErrOrder [1]"}},
		{[][]string{{all}, {all}, {all}}, []string{"ErrOrder [0]", "ErrOrder [1]"}},
		{[][]string{{all, all}, {all, "e"}, {all, all, all}}, []string{"ErrOrder [0].ErrorEquals", "ErrOrder [0]", "ErrOrder [1].ErrorEquals", "ErrOrder [1]", "ErrOrder [2].ErrorEquals"}},
	} {
		for _, kind := range []int{api.Task, api.Parallel, api.Map} {
			retried, caught := api.State{Type: kind, Parts: part}, api.State{Type: kind, Parts: part}
			for _, names := range x.names {
				retried.Retry = append(retried.Retry, retrier(names...))
				caught.Catch = append(caught.Catch, api.Catcher{Errors: names, Next: "z"})
			}
			under := func(field string) []string {
				var lines []string
				for _, line := range x.want {
					lines = append(lines, strings.Replace(line, " ", " "+field, 1))
				}
				return lines
			}
			state(t, retried, under(".Retry")...)
			state(t, caught, under(".Catch")...)
			caught.Retry = retried.Retry
			state(t, caught, append(under(".Retry"), under(".Catch")...)...)
		}
	}
}

// P9.2: how many parts.
func TestParts(t *testing.T) {
	one := of(api.State{Name: "x", Type: api.Fail})
	parts := func(n int) []api.Machine { return slices.Repeat([]api.Machine{one}, n) }
	for _, n := range []int{1, 2, 1023, 1024} {
		state(t, api.State{Type: api.Parallel, Parts: parts(n)})
		state(t, api.State{Type: api.Map, Parts: parts(n)})
	}
	state(t, api.State{Type: api.Parallel}, "ErrRange .Branches")
	state(t, api.State{Type: api.Parallel, Parts: []api.Machine{}}, "ErrRange .Branches")
	state(t, api.State{Type: api.Parallel, Parts: parts(1025)}, "ErrRange .Branches")
	state(t, api.State{Type: api.Map, Parts: parts(1025)})
	state(t, api.State{Type: api.Map}, "ErrLacks .Iterator")
	state(t, api.State{Type: api.Map, Parts: []api.Machine{}, Most: -1}, "ErrRange .MaxConcurrency", "ErrLacks .Iterator")
	state(t, api.State{Type: api.Map, Parts: []api.Machine{one, {}}})
	state(t, api.State{Type: api.Map, Parts: []api.Machine{{}, one}}, "ErrTarget .Iterator.StartAt")
	want := []string{"ErrRange .Branches"}
	for i := range 1500 {
		want = append(want, "ErrTarget .Branches["+strconv.Itoa(i)+"].StartAt")
	}
	state(t, api.State{Type: api.Parallel, Parts: make([]api.Machine, 1500)}, want...)
}

// nested is m in as many machines as kinds tells, from within to without, each of a state called a.
func nested(m api.Machine, kinds ...int) api.Machine {
	for _, kind := range kinds {
		m = of(api.State{Name: "a", Type: kind, Parts: []api.Machine{m}})
	}
	return m
}

// P9.4: machines in machines, to the bound and beyond it.
func TestDeep(t *testing.T) {
	end := of(api.State{Name: "a", Type: api.Succeed})
	for kind, at := range map[int]string{api.Parallel: ".States.a.Branches[0]", api.Map: ".States.a.Iterator"} {
		kinds := func(n int) []int { return slices.Repeat([]int{kind}, n) }
		place := func(n int) string { return "$" + strings.Repeat(at, n) }
		for _, n := range []int{0, 1, 16, 62, 63} {
			finds(t, nested(end, kinds(n)...))
			finds(t, nested(api.Machine{Start: "b"}, kinds(n)...), "ErrTarget "+place(n)+".StartAt")
		}
		for _, n := range []int{64, 65, 200, 1<<16 - 1} {
			finds(t, nested(end, kinds(n)...), "ErrDeep "+place(64))
			finds(t, nested(api.Machine{Start: "b"}, kinds(n)...), "ErrDeep "+place(64))
		}
		bad := of(api.State{Name: "a", Type: kind, Next: "none", Parts: []api.Machine{{Start: "b", States: []api.State{{Type: 9}}}}})
		finds(t, nested(bad, kinds(63)...), "ErrTarget "+place(63)+".States.a.Next", "ErrDeep "+place(64), "ErrReach "+place(63)+".States.a")
	}
	wide := of(api.State{Name: "a", Type: api.Parallel, Parts: []api.Machine{end, {}, end}})
	at := "$" + strings.Repeat(".States.a.Iterator", 63)
	finds(t, nested(wide, slices.Repeat([]int{api.Map}, 63)...), "ErrDeep "+at+".States.a.Branches[0]", "ErrDeep "+at+".States.a.Branches[1]", "ErrDeep "+at+".States.a.Branches[2]")
	finds(t, nested(of(api.State{Name: "a", Type: api.Map}), slices.Repeat([]int{api.Map}, 63)...), "ErrLacks "+at+".States.a.Iterator")
	finds(t, nested(of(api.State{Name: "a", Type: api.Parallel}), slices.Repeat([]int{api.Map}, 63)...), "ErrRange "+at+".States.a.Branches")
	finds(t, nested(of(api.State{Name: "a", Type: api.Map, Parts: []api.Machine{end, end}}), slices.Repeat([]int{api.Map}, 63)...), "ErrDeep "+at+".States.a.Iterator")
}

// P9.1: a machine of many states, some of which can't be come to.
func TestMany(t *testing.T) {
	const many = 1 << 15
	name := func(i int) string { return strconv.Itoa(i) }
	var m api.Machine
	m.Start = name(many - 1)
	var want []string
	for i := range many {
		s := api.State{Name: name(i), Type: api.Pass}
		if i > 0 {
			s.Next = name(i - 1)
		}
		m.States = append(m.States, s)
	}
	finds(t, m)
	m.Start = name(many / 2)
	for i := many/2 + 1; i < many; i++ {
		want = append(want, "ErrReach $.States."+name(i))
	}
	finds(t, m, want...)
	m.States[0].Next = m.Start
	want = nil
	for i := range many {
		want = append(want, "ErrReach $.States."+name(i))
	}
	finds(t, m, want...)
}
