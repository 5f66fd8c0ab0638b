package pipe_test

import (
	"math"
	"slices"
	"strings"
	"testing"

	"voyage/api"
	"voyage/json"
	"voyage/path"
	"voyage/pipe"
)

const (
	runtime    = "States.Runtime"
	parameters = "States.ParameterPathFailure"
	resultPath = "States.ResultPathMatchFailure"
	limit      = "States.DataLimitExceeded"
)

// at is the path of a text; null is the null path, nothing none.
func at(t *testing.T, s string) api.Path {
	t.Helper()
	switch s {
	case "":
		return api.Path{}
	case "null":
		return api.Path{Set: true, Nothing: true}
	}
	p, err := path.Parse(s)
	if err != nil {
		t.Fatalf("%s: %v", s, err)
	}
	return p
}

// unset leads nowhere, but there is none: nothing of it counts.
func unset() api.Path {
	return api.Path{Nothing: true, Context: true, Steps: []api.Step{{Name: "nowhere"}, {Place: -1, IsAt: true}}}
}

// null is null: nothing else of it counts.
func null() api.Path {
	p := unset()
	p.Set = true
	return p
}

// crowded is s with a mark in all that neither In nor Out may look at.
func crowded(s api.State) api.State {
	s.Name, s.Next, s.Resource, s.Default, s.Error, s.Cause = "n", "x", "r", "d", "e", "c"
	s.HasFixed, s.Fixed, s.Items, s.AtPath = true, text("fixed"), null(), null()
	s.Retry, s.Catch = []api.Retrier{{Errors: []string{"States.ALL"}, Most: 1}}, []api.Catcher{{Errors: []string{"States.ALL"}, Result: null(), Next: "x"}}
	s.Rules, s.Parts = []api.Rule{{Next: "x"}}, []api.Machine{{Start: "n", States: []api.State{{Name: "n"}}}}
	s.Seconds, s.WaitKind, s.Most, s.Until = 5, 1, 7, api.Instant{Sec: 1}
	return s
}

// enters wants an answer of In; beside a name, the zero value.
func enters(t *testing.T, what string, s api.State, raw, want api.Value, wantName string) {
	t.Helper()
	for _, state := range []api.State{s, crowded(s)} {
		got, name := pipe.In(state, raw, value(t, exampleContext))
		if name != wantName || !identical(got, want) {
			t.Errorf("In, %s: %.200q, %q, want %.200q, %q", what, json.Print(got), name, json.Print(want), wantName)
		}
	}
}

// leaves wants an answer of Out, whatever the state's type.
func leaves(t *testing.T, what string, s api.State, raw, result, want api.Value, wantName string) {
	t.Helper()
	for _, kind := range []int{0, api.Pass, api.Map} {
		state := s
		state.Type = kind
		if kind == api.Pass {
			state = crowded(state)
		}
		got, name := pipe.Out(state, raw, result, value(t, exampleContext))
		if name != wantName || !identical(got, want) {
			t.Errorf("Out of type %d, %s: %.200q, %q, want %.200q, %q", kind, what, json.Print(got), name, json.Print(want), wantName)
		}
	}
}

// P4.4
func TestIn(t *testing.T) {
	const whole = `{"a":{"b":[1,2]},"n":3}`
	for _, x := range []struct{ input, template, want, name string }{
		{"$.a.b", "", "[1,2]", ""}, {"null", "", "{}", ""}, {"$.q", "", "null", runtime}, {"", `{"k.$": "$.n"}`, `{"k":3}`, ""}, {"", "", whole, ""},
		{"$", "", whole, ""}, {"$.a.b[-1]", "", "2", ""}, {"$$", "", `{"x":"y"}`, ""}, {"$$.x", "", `"y"`, ""}, {"$$.n", "", "null", runtime}, {"$[0]", "", "null", runtime}, {"$.a.b[2]", "", "null", runtime}, {"$.n.n", "", "null", runtime},
		{"$.a", `{"k.$": "$.b[0]"}`, `{"k":1}`, ""}, {"$.a", `{"k.$": "$.n"}`, "null", parameters}, {"$.a", `{"k.$": "$$.x"}`, `{"k":"y"}`, ""}, {"$$", `{"k.$": "$.x"}`, `{"k":"y"}`, ""}, {"null", `{"k.$": "$"}`, `{"k":{}}`, ""}, {"null", `{"k.$": "$.n"}`, "null", parameters},
		{"", "null", "null", ""}, {"", "7", "7", ""}, {"", `"$.n"`, `"$.n"`, ""}, {"", "{}", "{}", ""}, {"null", "[]", "[]", ""},
		{"", `{"k.$": 1}`, "null", parameters}, {"", `{"k.$": "n"}`, "null", parameters}, {"", `{"k.$": "States.No()"}`, "null", parameters}, {"", `{"k.$": "States.ArrayLength($.n)"}`, "null", parameters}, {"", `{"k.$": "States.MathAdd($.n, 1)"}`, `{"k":4}`, ""},
		{"$.q", `{"k.$": "$.q"}`, "null", runtime}, {"$.q", `{"k": 1}`, "null", runtime},
	} {
		s := api.State{Input: at(t, x.input)}
		raw, want := value(t, whole), value(t, x.want)
		if x.template == "" {
			s.Parameters = value(t, `{"k.$": "$.nowhere"}`) // there is none: it doesn't count
		} else {
			s.Parameters, s.HasParameters = value(t, x.template), true
		}
		for kind := range api.Map {
			s.Type = kind
			enters(t, x.input+" "+x.template, s, raw, want, x.name)
		}
	}
}

// P4.4: a Map's Parameters aren't filled here; those of every other type are, of one that there is none of, too.
func TestInOfAMap(t *testing.T) {
	raw := value(t, exampleInput)
	for _, template := range []string{`{"k.$": "$.n"}`, `{"k.$": "$.nowhere"}`, "7", `{"k.$": 1}`} {
		s := api.State{Type: api.Map, HasParameters: true, Parameters: value(t, template)}
		enters(t, "a Map", s, raw, raw, "")
		s.Input = at(t, "$.a.b")
		enters(t, "a Map with an Input", s, raw, value(t, "[1, 2]"), "")
		s.Input = at(t, "null")
		enters(t, "a Map with null", s, raw, object(), "")
		s.Input = at(t, "$.q")
		enters(t, "a Map that leads nowhere", s, raw, api.Value{}, runtime)
	}
	for _, kind := range []int{0, -1, api.Pass, api.Task, api.Choice, api.Wait, api.Succeed, api.Fail, api.Parallel, api.Map + 1, math.MaxInt} {
		s := api.State{Type: kind, HasParameters: true, Parameters: value(t, `{"k.$": "$.n"}`)}
		enters(t, "no Map", s, raw, value(t, `{"k": 3}`), "")
	}
}

// P4.5
func TestOut(t *testing.T) {
	for _, x := range []struct{ selector, result, output, want, name string }{
		{"", "$.r.s", "", `{"n":3,"r":{"s":5}}`, ""}, {"", "null", "", `{"n":3}`, ""}, {"", "$[0]", "", "null", resultPath}, {`{"v.$": "$"}`, "", "", `{"v":5}`, ""}, {"", "$.r", "$.r", "5", ""}, {"", "", "$.q", "null", runtime}, {"", "", "null", "{}", ""}, {"", "", "", "5", ""},
		{"", "$", "", "5", ""}, {"", "$.n", "", `{"n":5}`, ""}, {"", "$.n.m", "", "null", resultPath}, {"", "$$", "", "null", resultPath}, {"", "$$.x", "", "null", resultPath}, {"", "$.n[-1]", "", "null", resultPath}, {"", "$.n[0]", "", "null", resultPath},
		{`{"v.$": "$.n"}`, "", "", "null", parameters}, {`{"v.$": "$$.x"}`, "", "", `{"v":"y"}`, ""}, {`{"v.$": 1}`, "null", "", "null", parameters}, {`{"v.$": "States.MathAdd($, 1)"}`, "", "", `{"v":6}`, ""}, {`{"v.$": "States.MathAdd($, 'x')"}`, "", "", "null", parameters}, {`{"v.$": "States.No()"}`, "", "", "null", parameters}, {"null", "", "", "null", ""},
		{`{"v.$": "$"}`, "$.r", "", `{"n":3,"r":{"v":5}}`, ""}, {`{"v.$": "$"}`, "$.r", "$.r.v", "5", ""}, {`{"v.$": "$"}`, "null", "$.n", "3", ""}, {`{"v.$": "$"}`, "", "$.n", "null", runtime}, {`{"v.$": "$"}`, "", "$.v", "5", ""},
		{"", "", "$", "5", ""}, {"", "", "$$", `{"x":"y"}`, ""}, {"", "", "$$.x", `"y"`, ""}, {"", "", "$$.n", "null", runtime}, {"", "null", "$.n", "3", ""}, {"", "null", "null", "{}", ""}, {"", "$", "$$.x", `"y"`, ""}, {"", "$.r", "$", `{"n":3,"r":5}`, ""},
		{`{"v.$": "$.q"}`, "$[0]", "$.q", "null", parameters}, {"", "$[0]", "$.q", "null", resultPath}, {"", "$[0]", "null", "null", resultPath}, {`{"v.$": "$.q"}`, "null", "null", "null", parameters},
	} {
		s := api.State{Result: at(t, x.result), Output: at(t, x.output), Input: at(t, "$.nowhere"), HasParameters: true, Parameters: object(field("p.$", text("$.nowhere")))}
		if x.selector == "" {
			s.Selector = value(t, `{"k.$": "$.nowhere"}`) // there is none: it doesn't count
		} else {
			s.Selector, s.HasSelector = value(t, x.selector), true
		}
		leaves(t, x.selector+" "+x.result+" "+x.output, s, value(t, `{"n": 3}`), value(t, "5"), value(t, x.want), x.name)
	}
	if got, name := pipe.Out(api.State{}, value(t, `{"n": 3}`), text("r"), api.Value{}); name != "" || !identical(got, text("r")) {
		t.Errorf("Out of a state that says nothing: %s, %q", json.Print(got), name)
	}
}

// P4.4, P4.5: of a path that isn't Set nothing counts, of a null one nothing else.
func TestPathsThatLeadNowhere(t *testing.T) {
	raw, result := value(t, exampleInput), value(t, "[5]")
	s := api.State{Input: unset(), Result: unset(), Output: unset()}
	enters(t, "not Set", s, raw, raw, "")
	leaves(t, "not Set", s, raw, result, result, "")
	s = api.State{Input: null(), Output: null()}
	enters(t, "null", s, raw, object(), "")
	leaves(t, "Output null", s, raw, result, object(), "")
	leaves(t, "Result null", api.State{Result: null()}, raw, result, raw, "")
	leaves(t, "Result and Output null", api.State{Result: null(), Output: null()}, raw, result, object(), "")
}

// P4.4, P4.5, R5: values that are told in other ways than the one form; what is answered is in it.
func TestGoesByMeaning(t *testing.T) {
	odd := object(field("b", everything(9)), field("a", number("010", 0)), field("a", text("second")), field("\xff", text("\x80")))
	even := object(field("a", number("1", 1)), field("b", api.Value{}), field("\ufffd", text("\ufffd")))
	enters(t, "an odd value", api.State{}, odd, even, "")
	enters(t, "an odd value's part", api.State{Input: api.Path{Set: true, Steps: []api.Step{{Name: "\xfe"}}}}, odd, text("\ufffd"), "")
	enters(t, "an odd template", api.State{HasParameters: true, Parameters: odd}, api.Value{}, even, "")
	leaves(t, "an odd result", api.State{}, api.Value{}, odd, even, "")
	leaves(t, "an odd raw input", api.State{Result: null()}, odd, api.Value{}, even, "")
	leaves(t, "odd both", api.State{Result: api.Path{Set: true, Steps: []api.Step{{Name: "a", Place: 4}}}}, odd, odd, object(field("a", even), field("b", api.Value{}), field("\ufffd", text("\ufffd"))), "")
	leaves(t, "an odd selector", api.State{HasSelector: true, Selector: odd}, api.Value{}, api.Value{}, even, "")
	leaves(t, "an odd value's part", api.State{Output: api.Path{Set: true, Steps: []api.Step{{Name: "\xfe"}}}}, api.Value{}, odd, text("\ufffd"), "")
}

// P4.4: soundness is asked of what In answers, not on the way.
func TestInSound(t *testing.T) {
	great, deep := sized(api.MaxText+1), nest(api.Value{}, 65, "")
	for _, v := range []api.Value{great, deep, list(sized(api.MaxText)), nest(api.Value{}, 65, "n")} {
		enters(t, "what isn't sound", api.State{}, v, api.Value{}, limit)
		enters(t, "what isn't sound", api.State{Input: at(t, "$")}, v, api.Value{}, limit)
		enters(t, "what isn't sound, of a Map", api.State{Type: api.Map, HasParameters: true, Parameters: text("x")}, v, api.Value{}, limit)
		enters(t, "a part that isn't sound", api.State{Input: at(t, "$.p")}, object(field("p", v)), api.Value{}, limit)
		enters(t, "a part that is sound", api.State{Input: at(t, "$.n")}, object(field("p", v), field("n", text("x"))), text("x"), "")
		enters(t, "null for what isn't sound", api.State{Input: null()}, v, object(), "")
		enters(t, "nowhere in what isn't sound", api.State{Input: at(t, "$.q")}, v, api.Value{}, runtime)
		enters(t, "a template of what isn't sound", api.State{HasParameters: true, Parameters: object(field("p.$", text("$")))}, v, api.Value{}, limit)
		enters(t, "a template that isn't sound", api.State{HasParameters: true, Parameters: v}, text("x"), api.Value{}, limit)
		enters(t, "a template beside what isn't sound", api.State{HasParameters: true, Parameters: object(field("p.$", text("$$.x")))}, v, object(field("p", text("y"))), "")
	}
	for _, v := range []api.Value{sized(api.MaxText), nest(api.Value{}, 64, ""), nest(list(), 63, "n"), list(sized(api.MaxText - 2))} {
		enters(t, "what is sound", api.State{}, v, v, "")
		enters(t, "what is sound", api.State{Input: at(t, "$.p")}, object(field("p", v)), v, "")
		enters(t, "a template that is sound", api.State{HasParameters: true, Parameters: v}, great, v, "")
	}
	heavy := object(field("a", list(great)), field("b.$", text("$.z")))
	enters(t, "too much ahead of what is wrong", api.State{HasParameters: true, Parameters: heavy}, text("x"), api.Value{}, limit)
	late := object(field("a.$", text("$.z")), field("b", great))
	enters(t, "too much behind what is wrong", api.State{HasParameters: true, Parameters: late}, text("x"), api.Value{}, parameters)
}

// P4.5: soundness is asked of what Out answers, and of what a Selector makes.
func TestOutSound(t *testing.T) {
	great, deep := sized(api.MaxText+1), nest(api.Value{}, 65, "")
	small := object(field("n", text("x")))
	for _, v := range []api.Value{great, deep} {
		leaves(t, "a result that isn't sound", api.State{}, small, v, api.Value{}, limit)
		leaves(t, "a result that isn't sound, put", api.State{Result: at(t, "$.r")}, small, v, api.Value{}, limit)
		leaves(t, "it put and left", api.State{Result: at(t, "$.r"), Output: at(t, "$.n")}, small, v, text("x"), "")
		leaves(t, "it put and picked", api.State{Result: at(t, "$.r"), Output: at(t, "$.r")}, small, v, api.Value{}, limit)
		leaves(t, "it dropped", api.State{Result: null()}, small, v, small, "")
		leaves(t, "nothing of it", api.State{Output: null()}, small, v, object(), "")
		leaves(t, "raw that isn't sound", api.State{Result: null()}, v, small, api.Value{}, limit)
		leaves(t, "raw that isn't sound isn't asked", api.State{}, v, small, small, "")
		leaves(t, "a part of raw", api.State{Result: null(), Output: at(t, "$.n")}, object(field("n", text("y")), field("v", v)), text("x"), text("y"), "")
		leaves(t, "a selector that isn't sound", api.State{HasSelector: true, Selector: v, Result: null()}, small, small, api.Value{}, limit)
		leaves(t, "a selector of what isn't sound", api.State{HasSelector: true, Selector: object(field("p.$", text("$"))), Output: null()}, small, v, api.Value{}, limit)
		leaves(t, "a selector beside what isn't sound", api.State{HasSelector: true, Selector: object(field("p.$", text("$$.x")))}, small, v, object(field("p", text("y"))), "")
		leaves(t, "nowhere to put it", api.State{Result: at(t, "$.n.m")}, small, v, api.Value{}, resultPath)
		leaves(t, "nowhere in it", api.State{Output: at(t, "$.q")}, small, v, api.Value{}, runtime)
	}
	room := api.MaxText - len(`{"n":"x","r":}`)
	leaves(t, "as much as there may be", api.State{Result: at(t, "$.r")}, small, sized(room), object(field("n", text("x")), field("r", sized(room))), "")
	leaves(t, "one byte more", api.State{Result: at(t, "$.r")}, small, sized(room+1), api.Value{}, limit)
	leaves(t, "as deep as it may be", api.State{Result: at(t, "$.r")}, object(), nest(api.Value{}, 63, ""), object(field("r", nest(api.Value{}, 63, ""))), "")
	leaves(t, "one deeper", api.State{Result: at(t, "$.r")}, object(), nest(api.Value{}, 64, ""), api.Value{}, limit)
	steps := api.Path{Set: true, Steps: slices.Repeat([]api.Step{{Name: "s"}}, 64)}
	leaves(t, "64 steps", api.State{Result: steps}, object(), text("in"), nest(text("in"), 64, "s"), "")
	steps.Steps = append(steps.Steps, api.Step{Name: "s"})
	leaves(t, "65 steps", api.State{Result: steps}, object(), text("in"), api.Value{}, limit)
	leaves(t, "65 steps, and back", api.State{Result: steps, Output: steps}, object(), text("in"), text("in"), "")
	leaves(t, "a long name", api.State{Result: api.Path{Set: true, Steps: []api.Step{{Name: strings.Repeat("s", api.MaxText)}}}}, object(), text("in"), api.Value{}, limit)
}
