package kern_test

import (
	"math"
	"strings"
	"testing"

	"voyage/api"
	"voyage/json"
	"voyage/kern"
)

// TestExampleOfTwoStates holds the chapter's first examples: P15.1, P15.3, P15.5, P15.6.
func TestExampleOfTwoStates(t *testing.T) {
	a := pass("A", "B")
	a.HasFixed, a.Fixed = true, val("1")
	m, in := machine(a, api.State{Name: "B", Type: api.Succeed}), val("{}")
	c := kern.Begin(m, in, 5)
	wantConfig(t, "Begin", c, api.Config{Fuel: 5, Frames: []api.Frame{{At: "A", Visit: 1, Attempt: 1, Left: 4, Raw: in, Index: -1}}})
	wantTurns(t, m, c, 7, 0)
	c = moves(t, m, in, c, 0, 7, fine("9"), event(api.EvMoved))
	wantConfig(t, "EvMoved", c, api.Config{Fuel: 5, Frames: []api.Frame{{At: "B", Visit: 2, Attempt: 1, Left: 3, Raw: val("1"), Index: -1}}})
	wantTurns(t, m, c, 7, 0)
	c = moves(t, m, in, c, 0, 7, noOutcome, event(api.EvMoved))
	wantConfig(t, "EvMoved again", c, api.Config{Fuel: 5, Frames: []api.Frame{{At: "B", Visit: 2, Attempt: 1, Left: 3, Raw: val("1"), Index: -1, Phase: api.Done, Result: val("1")}}})
	wantTurns(t, m, c, 7)
	c = moves(t, m, in, kern.Begin(m, in, 1), 0, 0, noOutcome, event(api.EvMoved))
	wantConfig(t, "fuel 1", c, api.Config{Fuel: 1, Frames: []api.Frame{{At: "A", Visit: 1, Attempt: 1, Raw: in, Index: -1, Phase: api.Failed, Error: outOfFuel}}})
	wantConfig(t, "fuel 0", kern.Begin(m, in, 0), api.Config{Frames: []api.Frame{{Index: -1, Phase: api.Failed, Error: outOfFuel}}})
}

// TestExampleOfARetry holds the chapter's example of a task that is tried twice.
func TestExampleOfARetry(t *testing.T) {
	s := task("T", "")
	s.Resource, s.Retry = "r", []api.Retrier{retries(1, all)}
	m, in := machine(s), val(`{"a":1}`)
	f := api.Frame{At: "T", Visit: 1, Attempt: 1, Left: 8, Raw: in, Index: -1, Charged: []int{0}}
	c := kern.Begin(m, in, 9)
	wantConfig(t, "Begin", c, api.Config{Fuel: 9, Frames: []api.Frame{f}})
	c = moves(t, m, in, c, 0, 10, wrong("e", ""), event(api.EvAsked))
	f.Phase = api.Asked
	wantConfig(t, "EvAsked", c, api.Config{Fuel: 9, Frames: []api.Frame{f}})
	c = moves(t, m, in, c, 0, 10, wrong("e", "why"), toldEvent(wrong("e", "why")))
	f.Phase, f.Delay, f.Back, f.Charged = api.Delayed, 2, true, []int{1}
	wantConfig(t, "EvTold", c, api.Config{Fuel: 9, Frames: []api.Frame{f}})
	c = moves(t, m, in, c, 0, 10, wrong("e", ""), timed(api.EvSet, 12))
	f.Phase, f.Delay, f.Due = api.Waiting, 0, 12
	wantConfig(t, "EvSet", c, api.Config{Fuel: 9, Frames: []api.Frame{f}})
	wantTurns(t, m, c, 11)
	wantTurns(t, m, c, 12, 0)
	c = moves(t, m, in, c, 0, 12, wrong("e", ""), timed(api.EvFired, 12))
	f.Phase, f.Due, f.Back, f.Attempt = api.Ready, 0, false, 2
	wantConfig(t, "EvFired", c, api.Config{Fuel: 9, Frames: []api.Frame{f}})
	c = moves(t, m, in, c, 0, 12, noOutcome, event(api.EvAsked))
	c = moves(t, m, in, c, 0, 12, wrong("e", "why"), toldEvent(wrong("e", "why")))
	f.Phase, f.Error, f.Cause = api.Failed, "e", "why"
	wantConfig(t, "EvTold again", c, api.Config{Fuel: 9, Frames: []api.Frame{f}})
}

// TestExampleOfTwoParts holds the chapter's example of a fan-out.
func TestExampleOfTwoParts(t *testing.T) {
	part := machine(task("T", ""))
	m, in := machine(parallel("P", "", part, part)), val("[7]")
	c := moves(t, m, in, kern.Begin(m, in, 4), 0, 0, noOutcome, event(api.EvMoved))
	whole := api.Frame{At: "P", Visit: 1, Attempt: 1, Left: 3, Raw: in, Index: -1, Phase: api.Fanned}
	first := api.Frame{Place: []int{1, 1, 0}, At: "T", Visit: 1, Attempt: 1, Left: 3, Raw: in, Index: -1}
	second := api.Frame{Place: []int{1, 1, 1}, At: "T", Visit: 1, Attempt: 1, Left: 3, Raw: in, Index: -1}
	wantConfig(t, "EvMoved", c, api.Config{Fuel: 4, Frames: []api.Frame{whole, first, second}})
	wantTurns(t, m, c, 0, 1, 2)
	c = moves(t, m, in, c, 2, 0, noOutcome, event(api.EvAsked, 1, 1, 1))
	wantConfig(t, "EvAsked", c, api.Config{Fuel: 4, Frames: []api.Frame{whole, first, phased(second, api.Asked)}})
	d := moves(t, m, in, c, 2, 0, wrong("e", "why"), toldEvent(wrong("e", "why"), 1, 1, 1))
	ended := phased(whole, api.Failed)
	ended.Error, ended.Cause = "e", "why"
	wantConfig(t, "EvTold, an error", d, api.Config{Fuel: 4, Frames: []api.Frame{ended}})
	c = moves(t, m, in, c, 2, 0, fine("[2]"), toldEvent(fine("[2]"), 1, 1, 1))
	second.Phase, second.Result = api.Done, val("[2]")
	wantConfig(t, "EvTold, a value", c, api.Config{Fuel: 4, Frames: []api.Frame{whole, first, second}})
	wantTurns(t, m, c, 0, 1)
	c = moves(t, m, in, c, 1, 0, noOutcome, event(api.EvAsked, 1, 1, 0))
	c = moves(t, m, in, c, 1, 0, fine("1"), toldEvent(fine("1"), 1, 1, 0))
	wantTurns(t, m, c, 0, 0)
	c = moves(t, m, in, c, 0, 0, noOutcome, event(api.EvJoined))
	ended = phased(whole, api.Done)
	ended.Result = val("[1,[2]]")
	wantConfig(t, "EvJoined", c, api.Config{Fuel: 4, Frames: []api.Frame{ended}})
}

// TestBeginFuel holds P15.1: fuel at its bounds and beyond them.
func TestBeginFuel(t *testing.T) {
	m, in := machine(pass("A", "")), val("[1]")
	for _, x := range []struct{ fuel, want int }{{math.MinInt, 0}, {-1, 0}, {0, 0}, {1, 1}, {2, 2}, {65535, 65535}, {65536, 65536}, {65537, 65536}, {math.MaxInt, 65536}} {
		want := api.Frame{At: "A", Visit: 1, Attempt: 1, Left: x.want - 1, Raw: in, Index: -1}
		if x.want == 0 {
			want = api.Frame{Index: -1, Phase: api.Failed, Error: outOfFuel}
		}
		wantConfig(t, "Begin", kern.Begin(m, in, x.fuel), api.Config{Fuel: x.want, Frames: []api.Frame{want}})
	}
}

// TestBeginState holds P15.1: a state of each type, whatever it has; the first of several that have the name; none, or one of no type.
func TestBeginState(t *testing.T) {
	in := val("7")
	for kind := -1; kind <= 10; kind++ {
		s := api.State{Name: "A", Type: kind, Retry: make([]api.Retrier, 3)}
		is := api.Frame{At: "A", Visit: 1, Attempt: 1, Left: 4, Raw: in, Index: -1, Charged: []int{0, 0, 0}}
		if kind < 1 || kind > 8 {
			is = api.Frame{Left: 4, Index: -1, Phase: api.Failed, Error: runtime}
		}
		want := api.Config{Fuel: 5, Frames: []api.Frame{is}}
		wantConfig(t, "one state", kern.Begin(machine(s), in, 5), want)
		m := api.Machine{Start: "A", States: []api.State{pass("B", ""), s, pass("A", "")}}
		wantConfig(t, "the first of two", kern.Begin(m, in, 5), want)
	}
	lost := api.Config{Fuel: 5, Frames: []api.Frame{{Left: 4, Index: -1, Phase: api.Failed, Error: runtime}}}
	for _, start := range []string{"", "b", "a ", "A", "a\xff"} {
		m := machine(pass("a", ""), pass("a\ufffd", ""))
		m.Start = start
		wantConfig(t, start, kern.Begin(m, in, 5), lost)
	}
	wantConfig(t, "no states", kern.Begin(api.Machine{}, in, 5), lost)
	wantConfig(t, "no fuel goes ahead of no state", kern.Begin(api.Machine{}, in, 0), api.Config{Frames: []api.Frame{{Index: -1, Phase: api.Failed, Error: outOfFuel}}})
	for _, name := range []string{"", "x y", "\xff\xfe"} { // names go as they stand
		want := api.Config{Fuel: 5, Frames: []api.Frame{{At: name, Visit: 1, Attempt: 1, Left: 4, Raw: in, Index: -1}}}
		wantConfig(t, name, kern.Begin(machine(pass(name, "")), in, 5), want)
	}
}

// TestBeginInput holds P15.1, P15.7: the input is Raw, in the one form; what isn't sound, too.
func TestBeginInput(t *testing.T) {
	m := machine(pass("A", ""))
	deep := api.Value{Kind: api.List}
	for range 80 {
		deep = api.Value{Kind: api.List, List: []api.Value{deep}}
	}
	odd := api.Value{Kind: api.Object, Text: "x", Fields: []api.Field{{Name: "b\xff", Value: api.Value{Kind: api.Number, Num: api.Dec{Digits: "0150"}}}, {Name: "a", Value: text("\xff")}, {Name: "a", Value: text("second")}}}
	for _, in := range []api.Value{{}, {Kind: 9, Text: "x"}, odd, deep, text(strings.Repeat("x", api.MaxText))} {
		c := kern.Begin(m, in, 5)
		if !same(c.Frames[0].Raw, json.Norm(in)) || c.Frames[0].Phase != api.Ready {
			t.Errorf("Begin with %.100s: %s", json.Print(in), shown(c))
		}
	}
	wantFailed(t, "an input that is too deep", ends(t, m, deep, 5, echo), "A", limit, "")
	wantFailed(t, "one that is too long", ends(t, m, text(strings.Repeat("x", api.MaxText-1)), 5, echo), "A", limit, "")
	long := ends(t, m, text(strings.Repeat("x", api.MaxText-2)), 5, echo)
	if f := long.Frames[0]; f.Phase != api.Done || len(f.Result.Text) != api.MaxText-2 {
		t.Errorf("one that is as long as may be: %d, %q", f.Phase, f.Error)
	}
}
