package kern_test

import (
	"fmt"
	"strings"
	"testing"

	"voyage/api"
	"voyage/kern"
)

// after is what runs behind the first event of a machine, which is an EvMoved.
func after(t *testing.T, m api.Machine, in api.Value, fuel int) api.Config {
	t.Helper()
	return moves(t, m, in, kern.Begin(m, in, fuel), 0, 3, fine("9"), event(api.EvMoved))
}

// TestPass holds what a Pass does.
func TestPass(t *testing.T) {
	in := val(`{"a":[1],"b":2}`)
	s := pass("A", "")
	wantDone(t, "nothing told", after(t, machine(s), in, 1), `{"a":[1],"b":2}`)
	s.Fixed = val("3")
	wantDone(t, "Fixed without HasFixed", after(t, machine(s), in, 1), `{"a":[1],"b":2}`)
	s.HasFixed = true
	wantDone(t, "Fixed", after(t, machine(s), in, 1), `3`)
	s.Result = way("$.c")
	wantDone(t, "Fixed at a path", after(t, machine(s), in, 1), `{"a":[1],"b":2,"c":3}`)
	s.Output = way("$.a[0]")
	wantDone(t, "and out of it", after(t, machine(s), in, 1), `1`)
	s.HasFixed, s.Input, s.Result, s.Output = false, way("$.a"), api.Path{}, api.Path{}
	wantDone(t, "InputPath", after(t, machine(s), in, 1), `[1]`)
	s.HasParameters, s.Parameters = true, val(`{"x.$":"$[0]"}`)
	wantDone(t, "Parameters", after(t, machine(s), in, 1), `{"x":1}`)
	s.Fixed, s.HasFixed = api.Value{Kind: api.Number, Num: api.Dec{Digits: "0500"}}, true
	wantDone(t, "Fixed that isn't in the one form", after(t, machine(s), in, 1), `5e2`)
	s.Fixed = text(strings.Repeat("x", api.MaxText))
	wantFailed(t, "Fixed that isn't sound", after(t, machine(s), in, 1), "A", limit, "")
	for name, s := range map[string]api.State{
		runtime:    {Name: "A", Type: api.Pass, Input: way("$.q")},
		parameters: {Name: "A", Type: api.Pass, HasParameters: true, Parameters: val(`{"x.$":"$.q"}`), HasFixed: true},
		resultPath: {Name: "A", Type: api.Pass, Result: way("$.b.c")},
		limit:      {Name: "A", Type: api.Pass, HasParameters: true, Parameters: text(strings.Repeat("x", api.MaxText))},
	} {
		s.Retry, s.Catch = []api.Retrier{retries(5, all)}, []api.Catcher{catches("A", "$", all)} // a Pass has none
		wantFailed(t, name, after(t, machine(s), in, 1), "A", name, "")
	}
	s = pass("A", "")
	s.Output = way("$.q")
	wantFailed(t, "OutputPath", after(t, machine(s), in, 1), "A", runtime, "")
}

// TestSucceed holds what a Succeed does: it is the end, whatever its Next.
func TestSucceed(t *testing.T) {
	in := val(`{"a":[1]}`)
	for _, next := range []string{"", "S", "gone"} {
		s := api.State{Name: "S", Type: api.Succeed, Next: next, HasFixed: true, Fixed: val("9")}
		c := after(t, machine(s), in, 1)
		wantDone(t, "Succeed", c, `{"a":[1]}`)
		s.Input, s.Output = way("$.a"), way("$[0]")
		wantDone(t, "with paths", after(t, machine(s), in, 1), `1`)
		s.Output = way("$[1]")
		wantFailed(t, "a path that leads nowhere", after(t, machine(s), in, 1), "S", runtime, "")
		s.Input = way("$.b")
		wantFailed(t, "an input that is none", after(t, machine(s), in, 1), "S", runtime, "")
	}
}

// TestFail holds what a Fail does: its Error and Cause as they stand, whatever In would say.
func TestFail(t *testing.T) {
	for _, x := range [][2]string{{"e", "why"}, {"", ""}, {"e\xff", "\xfe"}, {outOfFuel, "c"}, {strings.Repeat("x", api.MaxText), "c"}} {
		s := fails("F", x[0], x[1])
		s.Input, s.Next = way("$.gone"), "F"
		s.Retry, s.Catch = []api.Retrier{retries(5, all)}, []api.Catcher{catches("F", "$", all)}
		wantFailed(t, "Fail", after(t, machine(s), val("1"), 9), "F", x[0], x[1])
	}
}

// TestEnter holds what ENTER does of a frame: what is anew in it, what goes on, and what stays where it can't be.
func TestEnter(t *testing.T) {
	b := task("B", "")
	b.Retry = []api.Retrier{retries(1, "x"), retries(1, "y")}
	m := machine(pass("A", "B"), b, api.State{Name: "N"}, api.State{Name: "N", Type: api.Pass}, pass("B", "gone"))
	was := api.Frame{At: "A", Visit: 6, Attempt: 4, Left: 2, Raw: val("[1]"), Charged: []int{3, 4, 5}, Item: val(`"i"`), Index: 2, Due: 5, Delay: 6, Back: true, Result: val("7"), Error: "e", Cause: "c"}
	c := api.Config{Fuel: 9, Frames: []api.Frame{was}}
	wantConfig(t, "a state", moves(t, m, val("1"), c, 0, 0, noOutcome, event(api.EvMoved)), api.Config{Fuel: 9, Frames: []api.Frame{{At: "B", Visit: 7, Attempt: 1, Left: 1, Raw: val("[1]"), Charged: []int{0, 0}, Item: val(`"i"`), Index: 2}}})
	stays := api.Frame{At: "A", Visit: 6, Attempt: 4, Left: 1, Raw: val("[1]"), Charged: []int{3, 4, 5}, Item: val(`"i"`), Index: 2, Phase: api.Failed, Error: runtime}
	for _, next := range []string{"gone", "N", "b", " "} {
		m.States[0].Next = next
		wantConfig(t, "no state", moves(t, m, val("1"), c, 0, 0, noOutcome, event(api.EvMoved)), api.Config{Fuel: 9, Frames: []api.Frame{stays}})
	}
	for _, next := range []string{"gone", "B", "N"} {
		m.States[0].Next = next
		c.Frames[0].Left = 0
		stays.Left, stays.Error = 0, outOfFuel
		wantConfig(t, "no fuel", moves(t, m, val("1"), c, 0, 0, noOutcome, event(api.EvMoved)), api.Config{Fuel: 9, Frames: []api.Frame{stays}})
	}
	m.States[0].Next = ""
	stays.Phase, stays.Result, stays.Error = api.Done, val("[1]"), ""
	wantConfig(t, "an end needs no fuel", moves(t, m, val("1"), c, 0, 0, noOutcome, event(api.EvMoved)), api.Config{Fuel: 9, Frames: []api.Frame{stays}})
}

// TestFuelRunsOut holds how many states a frame enters: as many as its fuel says.
func TestFuelRunsOut(t *testing.T) {
	m := machine(pass("A", "A"))
	for _, fuel := range []int{1, 2, 7, 300} {
		c, steps := kern.Begin(m, val("1"), fuel), 0
		for c.Frames[0].Phase == api.Ready {
			_, c = goes(t, m, val("1"), c, 0, 0, noOutcome)
			steps++
		}
		wantFailed(t, "a circle", c, "A", outOfFuel, "")
		if steps != fuel || c.Frames[0].Visit != fuel || c.Frames[0].Left != 0 {
			t.Errorf("fuel %d: %d steps, %s", fuel, steps, shown(c))
		}
	}
}

// is is a rule that holds if the number at a path is n.
func is(where string, n string, next string) api.Rule {
	return api.Rule{Op: 15, Var: way(where), With: val(n), Next: next}
}

// TestChoice holds what a Choice does.
func TestChoice(t *testing.T) {
	in := val(`{"n":3,"t":"x"}`)
	broken := api.Rule{Op: 15, Var: way("$.gone"), With: val("1"), Next: "B"}
	for i, x := range []struct {
		rules []api.Rule
		other string
		want  string // the state, or an error
	}{
		{[]api.Rule{is("$.n", "3", "B"), is("$.n", "3", "D")}, "E", "B"},
		{[]api.Rule{is("$.n", "4", "B"), is("$.n", "3", "D")}, "E", "D"},
		{[]api.Rule{is("$.n", "4", "B"), is("$.n", "5", "D")}, "E", "E"},
		{nil, "E", "E"},
		{[]api.Rule{is("$.n", "3", "B")}, "", "B"},
		{[]api.Rule{is("$.n", "4", "B")}, "", noChoice},
		{nil, "", noChoice},
		{[]api.Rule{broken, is("$.n", "3", "B")}, "E", runtime},
		{[]api.Rule{is("$.n", "3", "B"), broken}, "E", "B"},
		{[]api.Rule{is("$.n", "4", "B"), broken}, "", runtime},
		{[]api.Rule{{Op: 99, Next: "B"}}, "E", runtime},
		{[]api.Rule{{Op: 1, Next: "B"}}, "E", "B"},
		{[]api.Rule{{Op: 3, All: []api.Rule{is("$.n", "4", "gone")}, Next: "D"}}, "E", "D"},
		{[]api.Rule{is("$.n", "3", "gone")}, "E", runtime},
		{[]api.Rule{is("$.n", "3", "N")}, "E", runtime},
		{[]api.Rule{is("$.n", "3", "")}, "E", noChoice},
		{nil, "gone", runtime},
		{nil, "N", runtime},
		{[]api.Rule{{Op: 15, Var: way("$$.State.RetryCount"), With: val("0"), Next: "B"}}, "E", "B"},
	} {
		s := api.State{Name: "C", Type: api.Choice, Rules: x.rules, Default: x.other, Next: "gone"}
		s.Retry, s.Catch = []api.Retrier{retries(5, all)}, []api.Catcher{catches("B", "$", all)} // a Choice has none
		m := machine(s, pass("B", ""), pass("D", ""), pass("E", ""), api.State{Name: "N"})
		c := after(t, m, in, 5)
		left, loses := 3, x.want == runtime && i > 12
		if x.want == noChoice || x.want == runtime && !loses {
			left = 4
		}
		if strings.HasPrefix(x.want, "States.") {
			wantFailed(t, x.want, c, "C", x.want, "")
		} else if f := c.Frames[0]; f.At != x.want || f.Phase != api.Ready || !same(f.Raw, in) || f.Visit != 2 {
			t.Errorf("%d: %s, want %s", i, shown(c), x.want)
		}
		if c.Frames[0].Left != left {
			t.Errorf("%d: %s, want left %d", i, shown(c), left)
		}
	}
}

// TestChoiceOfNoName holds that a next state whose name is empty is none, whether a rule that holds gave it or Default did, and though a state be called so: nothing is ENTERed, and Default isn't asked.
func TestChoiceOfNoName(t *testing.T) {
	broken := api.Rule{Op: 15, Var: way("$.gone"), With: val("1"), Next: "B"}
	within := func(op int, inner string) api.Rule {
		return api.Rule{Op: op, All: []api.Rule{is("$.n", "3", inner)}}
	}
	for i, x := range []struct {
		rules []api.Rule
		other string
		want  string // the state, or an error
	}{
		{[]api.Rule{is("$.n", "3", "")}, "", noChoice},
		{[]api.Rule{is("$.n", "3", "")}, "B", noChoice},
		{[]api.Rule{is("$.n", "3", "")}, "gone", noChoice},
		{[]api.Rule{is("$.n", "3", ""), is("$.n", "3", "B")}, "B", noChoice},
		{[]api.Rule{is("$.n", "4", "B"), is("$.n", "3", "")}, "B", noChoice},
		{[]api.Rule{is("$.n", "3", ""), broken}, "B", noChoice},
		{[]api.Rule{broken, is("$.n", "3", "")}, "B", runtime},
		{[]api.Rule{within(1, "B")}, "B", noChoice},
		{[]api.Rule{within(2, "B")}, "B", noChoice},
		{[]api.Rule{within(3, "B"), within(1, "B")}, "B", noChoice},
		{[]api.Rule{is("$.n", "4", "")}, "B", "B"},
		{[]api.Rule{is("$.n", "4", ""), is("$.n", "3", "B")}, "", "B"},
		{[]api.Rule{is("$.n", "4", "")}, "", noChoice},
		{nil, "", noChoice},
	} {
		s := api.State{Name: "C", Type: api.Choice, Rules: x.rules, Default: x.other, Next: "B"}
		s.Retry, s.Catch = []api.Retrier{retries(5, all)}, []api.Catcher{catches("B", "$", all)} // a Choice has none
		in := val(`{"n":3}`)
		for _, beside := range [][]api.State{nil, {pass("", "")}, {{Type: api.Succeed}}, {{Type: 9}}} {
			m := machine(append([]api.State{s, pass("B", "")}, beside...)...)
			c := after(t, m, in, 5)
			want := api.Frame{At: "C", Visit: 1, Attempt: 1, Left: 4, Raw: in, Charged: []int{0}, Index: -1, Phase: api.Failed, Error: x.want}
			if x.want == "B" {
				want = api.Frame{At: "B", Visit: 2, Attempt: 1, Left: 3, Raw: in, Index: -1}
			}
			wantConfig(t, fmt.Sprint(i), c, api.Config{Fuel: 5, Frames: []api.Frame{want}})
		}
	}
}

// TestChoiceOfNoNameWithin holds what goes ahead of a next state whose name is empty and what doesn't, and that the error goes up to whoever has a retrier or a catcher for it.
func TestChoiceOfNoNameWithin(t *testing.T) {
	in := val(`{"n":3}`)
	s := api.State{Name: "C", Type: api.Choice, Rules: []api.Rule{is("$.n", "3", "")}, Default: "B", Output: way("$.q")}
	m := machine(s, pass("B", ""), pass("", ""))
	wantFailed(t, "it comes ahead of Out", after(t, m, in, 5), "C", noChoice, "")
	wantFailed(t, "and of the fuel", after(t, m, in, 1), "C", noChoice, "")
	m.States[0].Input = way("$.q")
	wantFailed(t, "In comes ahead of it", after(t, m, in, 5), "C", runtime, "")
	m.States[0].Input, m.States[0].Output = api.Path{}, api.Path{}
	p := parallel("P", "", m)
	wantFailed(t, "a part", ends(t, machine(p), in, 9, echo), "P", noChoice, "")
	p.Catch = []api.Catcher{catches("Z", "$", runtime), catches("Z", "$", noChoice)}
	wantDone(t, "caught", ends(t, machine(p, pass("Z", "")), in, 9, echo), `{"Error":"States.NoChoiceMatched","Cause":""}`)
	p.Catch[1].Next = "" // a name as any other: of a catcher nothing is said of an empty one
	wantDone(t, "caught, to a state without a name", ends(t, machine(p, pass("", "")), in, 9, echo), `{"Error":"States.NoChoiceMatched","Cause":""}`)
	wantFailed(t, "caught, to none", ends(t, machine(p), in, 9, echo), "P", runtime, "")
}

// TestChoicePaths holds that a Choice's rules go by what In gave, and that Out comes behind them.
func TestChoicePaths(t *testing.T) {
	in := val(`{"a":{"n":3},"n":4}`)
	s := api.State{Name: "C", Type: api.Choice, Rules: []api.Rule{is("$.n", "3", "B")}, Default: "D", Input: way("$.a")}
	m := machine(s, pass("B", ""), pass("D", ""))
	wantAt := func(what, at, raw string) {
		t.Helper()
		c := after(t, m, in, 5)
		if f := c.Frames[0]; f.At != at || !same(f.Raw, val(raw)) {
			t.Errorf("%s: %s", what, shown(c))
		}
	}
	wantAt("InputPath", "B", `{"n":3}`)
	m.States[0].Output = way("$.n")
	wantAt("OutputPath", "B", `3`)
	m.States[0].Result = way("$.r") // pipe.Out goes by it of whatever type
	m.States[0].Output = api.Path{}
	wantAt("Result", "B", `{"a":{"n":3},"n":4,"r":{"n":3}}`)
	m.States[0].Result = api.Path{}
	m.States[0].HasParameters, m.States[0].Parameters = true, val(`{"n":5}`)
	wantAt("Parameters", "D", `{"n":5}`)
	m.States[0].Output = way("$.q")
	wantFailed(t, "Out has an error", after(t, m, in, 5), "C", runtime, "")
	m.States[0].Default = ""
	wantFailed(t, "no rule holds, which comes ahead of Out", after(t, m, in, 5), "C", noChoice, "")
	m.States[0].Default, m.States[0].Output, m.States[0].Result = "gone", api.Path{}, way("$.n.x")
	wantFailed(t, "Out comes ahead of the next state", after(t, m, in, 5), "C", resultPath, "")
	m.States[0].Input = way("$.q")
	wantFailed(t, "In comes ahead of all", after(t, m, in, 5), "C", runtime, "")
}

// TestTask holds what a Task does, up to its end.
func TestTask(t *testing.T) {
	in := val(`{"a":[1]}`)
	s := task("T", "B")
	s.Input, s.Result, s.HasSelector, s.Selector = way("$.a"), way("$.r"), true, val(`{"s.$":"$.v"}`)
	m := machine(s, pass("B", ""))
	c := moves(t, m, in, kern.Begin(m, in, 5), 0, 4, fine("9"), event(api.EvAsked))
	if f := c.Frames[0]; f.Phase != api.Asked || f.Visit != 1 || f.Left != 4 || !same(f.Raw, in) {
		t.Errorf("asked: %s", shown(c))
	}
	d := moves(t, m, in, c, 0, 4, fine(`{"v":7}`), toldEvent(fine(`{"v":7}`)))
	wantConfig(t, "told", d, api.Config{Fuel: 5, Frames: []api.Frame{{At: "B", Visit: 2, Attempt: 1, Left: 3, Index: -1, Raw: val(`{"a":[1],"r":{"s":7}}`)}}})
	wantFailed(t, "a selector that can't be filled", moves(t, m, in, c, 0, 4, fine(`{}`), toldEvent(fine(`{}`))), "T", parameters, "")
	wantFailed(t, "an error", moves(t, m, in, c, 0, 4, wrong("e", "why"), toldEvent(wrong("e", "why"))), "T", "e", "why")
	wantFailed(t, "an error without a name", moves(t, m, in, c, 0, 4, wrong("", "why"), toldEvent(wrong("", "why"))), "T", "", "why")
	m.States[0].Input = way("$.q")
	wantFailed(t, "an input that is none", after(t, m, in, 5), "T", runtime, "")
	m.States[0].Retry = []api.Retrier{retries(2, runtime)}
	c = after(t, m, in, 5)
	if f := c.Frames[0]; f.Phase != api.Delayed || f.Delay != 2 || !same(f.Charged, []int{1}) {
		t.Errorf("an input that is none, retried: %s", shown(c))
	}
}
