package kern_test

import (
	"testing"

	"voyage/api"
	"voyage/json"
	"voyage/kern"
)

// asks is a task that is asked with its whole context.
func asks(name string) api.State {
	s := task(name, "")
	s.HasParameters, s.Parameters = true, val(`{"c.$":"$$"}`)
	return s
}

// wantContext wants the context with which a frame asks.
func wantContext(t *testing.T, m api.Machine, in api.Value, c api.Config, i int, want string) {
	t.Helper()
	k, is := kern.Key(m, in, c, i)
	got, _ := json.Get(k.Input, "c")
	if !is || json.Print(got) != json.Print(val(want)) {
		t.Errorf("the context of %d: %s, %v, want %s", i, json.Print(got), is, want)
	}
}

// TestContext holds the chapter's words on it: of the whole one, of a part, of a Map's part and of parts of that.
func TestContext(t *testing.T) {
	m, in := machine(asks("T\xff")), api.Value{Kind: api.Object, Fields: []api.Field{{Name: "b", Value: val("10")}, {Name: "a", Value: text("\xff")}}}
	f := phased(at("T\xff"), api.Asked)
	f.Visit, f.Attempt, f.Raw = 6, 11, val("5")
	wantContext(t, m, in, config(f), 0, `{"Execution":{"Input":{"a":"\ufffd","b":1e1}},"State":{"Name":"T\ufffd","RetryCount":1e1}}`)
	f.Index, f.Item = 0, val(`["i"]`) // by hand it is as if it were a Map's part
	wantContext(t, m, in, config(f), 0, `{"Execution":{"Input":{"a":"\ufffd","b":1e1}},"Map":{"Item":{"Index":0,"Value":["i"]}},"State":{"Name":"T\ufffd","RetryCount":1e1}}`)
	f.Index = -2
	wantContext(t, m, in, config(f), 0, `{"Execution":{"Input":{"a":"\ufffd","b":1e1}},"State":{"Name":"T\ufffd","RetryCount":1e1}}`)
	f.Attempt = 1 << 40
	wantContext(t, m, val("1"), config(f), 0, `{"Execution":{"Input":1},"State":{"Name":"T\ufffd","RetryCount":1099511627775}}`)
}

// TestContextOfParts holds which Map's item is the nearest.
func TestContextOfParts(t *testing.T) {
	inner := machine(mapped("N", "", 0, machine(asks("T"))))
	m := machine(mapped("M", "", 0, machine(parallel("P", "", machine(asks("T")), inner))))
	in := val("1")
	index := func(f api.Frame, index int, item string) api.Frame {
		f.Index, f.Item = index, val(item)
		return f
	}
	asked := func(place ...int) api.Frame { return phased(at("T", place...), api.Asked) }
	c := config(phased(at("M"), api.Fanned), index(phased(at("P", 1, 1, 0), api.Fanned), 3, `"three"`),
		asked(1, 1, 0, 1, 1, 0), index(phased(at("N", 1, 1, 0, 1, 1, 1), api.Fanned), -1, `"none"`),
		index(asked(1, 1, 0, 1, 1, 1, 1, 1, 0), 0, `{"z":0}`), index(asked(1, 1, 0, 1, 1, 1, 1, 1, 1), 77, `null`), asked(1, 1, 0, 1, 1, 1, 1, 1, 2))
	base := `{"Execution":{"Input":1},"State":{"Name":"T","RetryCount":0}`
	wantContext(t, m, in, c, 2, base+`,"Map":{"Item":{"Index":3,"Value":"three"}}}`)
	wantContext(t, m, in, c, 4, base+`,"Map":{"Item":{"Index":0,"Value":{"z":0}}}}`)
	wantContext(t, m, in, c, 5, base+`,"Map":{"Item":{"Index":77,"Value":null}}}`)
	wantContext(t, m, in, c, 6, base+`,"Map":{"Item":{"Index":3,"Value":"three"}}}`)
	c.Frames[1].Index = -1
	wantContext(t, m, in, c, 2, base+`}`)
	wantContext(t, m, in, c, 6, base+`}`)
	wantContext(t, m, in, c, 4, base+`,"Map":{"Item":{"Index":0,"Value":{"z":0}}}}`)
}

// TestContextOfARun holds that it goes along: In, Out, rules, Items and the fillings of a Map's parts all see it.
func TestContextOfARun(t *testing.T) {
	in := val(`{"l":[[10,20],[30]],"k":"v"}`)
	tell := pass("A", "")
	tell.HasParameters, tell.Parameters = true, val(`{"i.$":"$$.Map.Item.Index","v.$":"$$.Map.Item.Value","n.$":"$$.State.Name","r.$":"$"}`)
	inner := mapped("N", "", 0, machine(tell))
	inner.Items = way("$.of")
	inner.HasParameters, inner.Parameters = true, val(`{"i.$":"$$.Map.Item.Index","v.$":"$$.Map.Item.Value","n.$":"$$.State.Name","k.$":"$$.Execution.Input.k","of.$":"$.of"}`)
	outer := mapped("M", "", 0, machine(inner))
	outer.Items = way("$$.Execution.Input.l")
	outer.HasParameters, outer.Parameters = true, val(`{"of.$":"$$.Map.Item.Value","n.$":"$$.State.Name"}`)
	outer.Input = way("$.k")
	item := func(i, v, of string) string {
		return `{"i":` + i + `,"v":` + v + `,"n":"A","r":{"i":` + i + `,"v":` + v + `,"n":"N","k":"v","of":` + of + `}}`
	}
	m := machine(outer)
	wantDone(t, "Maps", ends(t, m, in, 9, echo), `[[`+item("0", "10", "[10,20]")+`,`+item("1", "20", "[10,20]")+`],[`+item("0", "30", "[30]")+`]]`)
	choice := api.State{Name: "C", Type: api.Choice, Output: way("$$.State"), Default: "Z", Rules: []api.Rule{{Op: 4, Var: way("$$.State.Name"), With: text("C"), Next: "B"}}}
	last := pass("B", "")
	last.Result, last.Output = way("$.r"), way("null")
	wantDone(t, "a Choice", ends(t, machine(choice, pass("B", "")), in, 9, echo), `{"Name":"C","RetryCount":0}`)
	wantDone(t, "an OutputPath that is null", ends(t, machine(choice, last), in, 9, echo), `{}`)
	s := task("T", "")
	s.HasSelector, s.Selector = true, val(`{"n.$":"$$.State.RetryCount","r.$":"$"}`)
	s.Retry = []api.Retrier{retries(5, all)}
	wantDone(t, "a ResultSelector", ends(t, machine(s), in, 9, func(k api.Key) api.Outcome {
		if k.Attempt < 4 {
			return wrong("e", "")
		}
		return fine(`"x"`)
	}), `{"n":3,"r":"x"}`)
}
