package dry_test

import (
	"fmt"
	"slices"
	"strings"
	"testing"

	"voyage/api"
	"voyage/json"
)

// numbers is a list of so many.
func numbers(n int) api.Value {
	v := api.Value{Kind: api.List}
	for i := range n {
		v.List = append(v.List, json.Norm(val(fmt.Sprint(i))))
	}
	return v
}

// TestParallel holds what parts begin with, and what comes of their results.
func TestParallel(t *testing.T) {
	in := `{"a":{"b":1},"c":2}`
	s := parallel("P", "", passing(), machine(gives("G", "[5]", "")), machine(pass("A", "B"), pass("B", "")))
	wants(t, "nothing told", of(machine(s), in), done(`[`+in+`,[5],`+in+`]`, 1+1+1+2+1))
	s.Input, s.HasParameters, s.Parameters = way("$.a"), true, val(`{"x.$":"$.b"}`)
	wants(t, "InputPath and Parameters", of(machine(s), in), done(`[{"x":1},[5],{"x":1}]`, 6))
	s.Result, s.HasSelector, s.Selector = way("$.r"), true, val(`{"s.$":"$[1]","n.$":"$$.State.Name"}`)
	wants(t, "ResultSelector and ResultPath", of(machine(s), in), done(`{"a":{"b":1},"c":2,"r":{"s":[5],"n":"P"}}`, 6))
	s.Output, s.Next = way("$.r.s"), "Z"
	wants(t, "OutputPath and Next", of(machine(s, pass("Z", "")), in), done(`[5]`, 7))
	s.Output, s.Most = way("$.q"), 1
	wants(t, "Out has an error", of(machine(s), in), ended(runtime, 6))
	s.Retry, s.Catch = []api.Retrier{retries(1, runtime)}, []api.Catcher{catches("Z", "null", runtime)}
	wants(t, "and is retried and caught", of(machine(s, pass("Z", "")), in), done(in, 6+2+6+1))
	half := text(strings.Repeat("x", api.MaxText/2))
	long := gives("G", "1", "")
	long.Fixed = half
	wants(t, "results that are too long together", of(machine(parallel("P", "", machine(long), machine(long))), "1"), ended(limit, 4))
	s = parallel("P", "", machine(parallel("Q", "", passing(), passing())), machine(mapped("M", "", 0, passing())))
	wants(t, "fan-outs in parts", of(machine(s), "[1,2]"), done("[[[1,2],[1,2]],[1,2]]", 1+4+4+1))
}

// TestNoParts holds a Parallel and a Map of no parts: they are joined at once.
func TestNoParts(t *testing.T) {
	wants(t, "Parallel", of(machine(parallel("P", "")), "1").fuelled(1), done("[]", 2))
	wants(t, "Parallel, and on", of(machine(parallel("P", "A"), pass("A", "")), "1"), done("[]", 3))
	for _, most := range []int{-1, 0, 1, 5} {
		m := machine(mapped("M", "", most, failing("e")))
		wants(t, "Map", of(m, "[]").fuelled(1), done("[]", 2))
		m.States[0].Parts[0] = api.Machine{Start: "gone"}
		wants(t, "Map, of what can't begin", of(m, "[]"), done("[]", 2))
		m.States[0].HasParameters, m.States[0].Parameters = true, val(`{"x.$":"$.gone"}`)
		wants(t, "Map, of what can't be filled", of(m, "[]"), done("[]", 2))
		m.States[0].Parts = nil
		wants(t, "Map without Parts, no items", of(m, "[]"), ended(runtime, 1))
		wants(t, "Map without Parts", of(m, "[1]"), ended(runtime, 1))
	}
}

// TestManyParts holds MaxParts parts, and one more.
func TestManyParts(t *testing.T) {
	s := parallel("P", "", slices.Repeat([]api.Machine{machine(gives("G", "7", ""))}, api.MaxParts)...)
	r, c := of(machine(s), "1").run()
	if !r.Fine || len(c) > 0 || len(r.Output.List) != api.MaxParts || r.Steps != api.MaxParts+2 {
		t.Errorf("MaxParts: %s", shown(r, c))
	}
	s.Parts = append(s.Parts, passing())
	wants(t, "one more", of(machine(s), "1"), ended(runtime, 1))
	s.Retry = []api.Retrier{retries(2, runtime)}
	wants(t, "one more, retried", of(machine(s), "1"), ended(runtime, 3*1+2*2))
	m := machine(mapped("M", "", 3, passing()))
	g := given{m: m, in: numbers(api.MaxParts), fuel: 2}
	wants(t, "MaxParts items", g, api.Report{Fine: true, Output: g.in, Steps: api.MaxParts + 2})
	g.in = numbers(api.MaxParts + 1)
	wants(t, "one item more", g, ended(runtime, 1))
	g.m.States[0].Catch = []api.Catcher{catches("Z", "$", runtime)}
	g.m.States = append(g.m.States, pass("Z", ""))
	wants(t, "one item more, caught", g, done(`{"Error":"States.Runtime","Cause":""}`, 2))
}

// TestPartsThatCantBegin holds that the first part that FAILS as it ENTERs its Start decides: that no part is run then, and that just it can win.
func TestPartsThatCantBegin(t *testing.T) {
	lost, none := api.Machine{Start: "gone", States: []api.State{pass("A", "")}}, machine(api.State{Name: "A"})
	ask, inner := machine(task("T", "")), machine(parallel("Q", "", failing("e")))
	for i, x := range []struct {
		parts []api.Machine
		first int
	}{
		{[]api.Machine{lost}, 0}, {[]api.Machine{none}, 0}, {[]api.Machine{ask, lost}, 1}, {[]api.Machine{lost, ask}, 0}, {[]api.Machine{failing("e"), lost, none}, 1}, {[]api.Machine{inner, ask, {}, inner}, 2}, {[]api.Machine{failing("e"), failing("f"), passing(), none, lost}, 3},
	} {
		s := parallel("P", "", x.parts...)
		for part := range len(x.parts) + 1 {
			g := of(machine(s), "1").winners(winner(part, 1, 1))
			wants(t, fmt.Sprint(i), g, ended(runtime, 1), contest(at(1, 1), x.first, x.first))
		}
		s.Retry, s.Catch = []api.Retrier{retries(1, "x"), retries(1, runtime)}, []api.Catcher{catches("Z", "$", runtime)}
		wants(t, fmt.Sprint(i, ", retried and caught"), of(machine(s, pass("Z", "")), "1"), done(`{"Error":"States.Runtime","Cause":""}`, 1+2+1+1), contest(at(1, 1), x.first, x.first), contest(at(1, 2), x.first, x.first))
	}
	over := mapped("M", "", 1, lost)
	wants(t, "of a Map it is the first one", of(machine(over), "[1,2]").winners(winner(1, 1, 1)), ended(runtime, 1), contest(at(1, 1), 0, 0))
	deep := machine(parallel("P", "", passing(), machine(parallel("Q", "", passing(), lost))))
	wants(t, "within a part that is run", of(deep, "1"), ended(runtime, 3), contest(at(1, 1, 1, 1, 1), 1, 1), contest(at(1, 1), 1, 1))
}

// TestMapItems holds which items a Map has.
func TestMapItems(t *testing.T) {
	s := mapped("M", "", 0, passing())
	s.Items = way("$.l")
	in := `{"l":[10,{"a":1},null],"n":5,"t":"x","o":{"0":1}}`
	wants(t, "a list", of(machine(s), in), done(`[10,{"a":1},null]`, 1+3+1))
	for _, items := range []string{"$.n", "$.t", "$.o", "$.q", "$.l[0]", "null", "$", "$$", "$$.Map.Item.Value"} {
		s.Items = way(items)
		wants(t, items, of(machine(s), in), ended(runtime, 1))
	}
	s.Items = api.Path{}
	wants(t, "the input itself", of(machine(s), "[7]"), done("[7]", 3))
	s.Items, s.Input = way("$[-1]"), way("$.l")
	wants(t, "behind InputPath", of(machine(s), `{"l":[[1],[2,3]]}`), done("[2,3]", 4))
	s.Items, s.Input = way("$$.Execution.Input.l"), way("$.n")
	wants(t, "of the context", of(machine(s), in), done(`[10,{"a":1},null]`, 5))
	s.Parts = append(s.Parts, failing("e"))
	wants(t, "only the first of Parts counts", of(machine(s), in), done(`[10,{"a":1},null]`, 5))
	s.Retry, s.Items = []api.Retrier{retries(1, runtime)}, way("$.q")
	wants(t, "none, retried", of(machine(s), in), ended(runtime, 1+2+1))
}

// TestMapParameters holds what parts begin with where a Map has Parameters, and what is wrong with these: that is no contest.
func TestMapParameters(t *testing.T) {
	s := mapped("M", "", 0, passing())
	s.Items = way("$.l")
	s.Parameters = val(`{"i.$":"$$.Map.Item.Index","v.$":"$$.Map.Item.Value.a","n.$":"$.n","s.$":"$$.State.Name","f":1}`)
	in := `{"l":[{"a":10},{"a":20}],"n":5}`
	wants(t, "Parameters without HasParameters", of(machine(s), in), done(`[{"a":10},{"a":20}]`, 4))
	s.HasParameters = true
	wants(t, "Parameters", of(machine(s), in), done(`[{"i":0,"v":10,"n":5,"s":"M","f":1},{"i":1,"v":20,"n":5,"s":"M","f":1}]`, 4))
	wants(t, "an item in the middle", of(machine(s), `{"l":[{"a":10},{},{"a":20}],"n":5}`), ended(parameters, 1))
	s.Retry = []api.Retrier{retries(1, parameters)}
	wants(t, "retried", of(machine(s), `{"l":[{"a":10},{},{"a":20}],"n":5}`), ended(parameters, 1+2+1))
	s.Retry, s.Parameters = nil, val(`{"x.$":"States.MathAdd($$.Map.Item.Value, 1)"}`)
	wants(t, "a call that can't be reckoned", of(machine(s), `{"l":[1,"x"]}`), ended(parameters, 1))
	s.Parameters = val(`{"x.$":"$","y.$":"$$.Map.Item.Value"}`)
	long := api.Value{Kind: api.Object, Fields: []api.Field{{Name: "l", Value: api.Value{Kind: api.List, List: []api.Value{val("1"), text(strings.Repeat("x", api.MaxText/2))}}}}}
	wants(t, "above the bound", given{m: machine(s), in: long, fuel: 5}, ended(limit, 1))
	s.Parts[0] = api.Machine{Start: "gone"}
	s.Parameters = val(`{"v.$":"$$.Map.Item.Value.a"}`)
	wants(t, "the first that is wrong decides: a part", of(machine(s), `{"l":[{"a":1},{}]}`), ended(runtime, 1), contest(at(1, 1), 0, 0))
	wants(t, "or what can't be filled", of(machine(s), `{"l":[{},{"a":1}]}`), ended(parameters, 1))
	s.Catch = []api.Catcher{catches("Z", "$", parameters)}
	wants(t, "caught", of(machine(s, pass("Z", "")), `{"l":[{}]}`), done(`{"Error":"States.ParameterPathFailure","Cause":""}`, 2))
}

// TestContext holds what stands in the context of the whole one, of parts, and of a Map's parts and those within them.
func TestContext(t *testing.T) {
	tell := pass("A\xff", "")
	tell.HasParameters, tell.Parameters = true, val(`{"c.$":"$$"}`)
	in := `{"b":10,"a":["x"]}`
	whole := func(of, more string) string {
		return `{"c":{"Execution":{"Input":` + in + `},"State":{"Name":"` + of + `","RetryCount":0}` + more + `}}`
	}
	of1 := whole(`A\ufffd`, "")
	wants(t, "the whole one", of(machine(tell), in), done(of1, 1))
	wants(t, "a part", of(machine(parallel("P", "", machine(tell))), in), done("["+of1+"]", 3))
	item := func(index, v string) string { return `,"Map":{"Item":{"Index":` + index + `,"Value":` + v + `}}` }
	over := mapped("M", "", 0, machine(parallel("P", "", machine(tell))))
	over.Input = way("$.a")
	wants(t, "a part of a Map's part", of(machine(over), in), done("[["+whole(`A\ufffd`, item("0", `"x"`))+"]]", 5))
	inner := mapped("N", "", 0, machine(tell))
	inner.Items = way("$$.Map.Item.Value")
	over.Parts, over.Input, over.HasParameters, over.Parameters = []api.Machine{machine(inner, pass("Z", ""))}, api.Path{}, true, val("0")
	over.Items = way("$$.Execution.Input.l")
	in = `{"l":[["p","q"],["r"]]}`
	wants(t, "the nearest one", of(machine(over), in), done(`[[`+whole(`A\ufffd`, item("0", `"p"`))+`,`+whole(`A\ufffd`, item("1", `"q"`))+`],[`+whole(`A\ufffd`, item("0", `"r"`))+`]]`, 1+4+3+1))
	next := tell
	next.Name = "Z"
	over.Parts[0].States[0].Next, over.Parts[0].States[1] = "Z", next
	over.Parts[0].States[0].Parts[0] = passing()
	wants(t, "behind one", of(machine(over), in), done(`[`+whole("Z", item("0", `["p","q"]`))+`,`+whole("Z", item("1", `["r"]`))+`]`, 1+5+4+1))
	last := tell
	last.Name = "L"
	over.Next = "L"
	wants(t, "behind all", of(machine(over, last), in), done(whole("L", ""), 1+5+4+1+1))
}

// TestContextOfOut holds that what comes out of a state is told by its context, too, and what a Choice asks.
func TestContextOfOut(t *testing.T) {
	ask := task("T", "")
	ask.Retry = []api.Retrier{retries(5, all)}
	ask.HasSelector, ask.Selector = true, val(`{"i.$":"$$.Map.Item.Index","n.$":"$$.State.RetryCount"}`)
	m := machine(mapped("M", "", 0, machine(ask)))
	wants(t, "a Map's part", of(m, `["a","b"]`).answers(tellsEach("rT", "e", "e")...), done(`[{"i":0,"n":2},{"i":1,"n":2}]`, 1+10+10+1))
	choice := api.State{Name: "C", Type: api.Choice, Output: way("$$.Map.Item"), Default: "G", Rules: []api.Rule{is("$$.Map.Item.Index", "1", "S")}}
	m = machine(mapped("M", "", 0, machine(choice, api.State{Name: "S", Type: api.Succeed}, gives("G", "0", ""))))
	wants(t, "a Choice", of(m, `["a","b"]`), done(`[0,{"Index":1,"Value":"b"}]`, 1+2+2+1))
	fan := parallel("P", "", passing())
	fan.Output = way("$$.Map.Item.Value")
	m = machine(mapped("M", "", 0, machine(fan)))
	wants(t, "a fan-out, behind its parts", of(m, `["a"]`), done(`["a"]`, 1+3+1))
}

// TestDeepFans holds many parts in one another: the whole of them is run, and its steps counted.
func TestDeepFans(t *testing.T) {
	const deep = 1 << 16
	last := parallel("L", "", failing("e"))
	last.Retry, last.Catch = []api.Retrier{retries(1, "e")}, []api.Catcher{catches("A", "null", "e")}
	m := machine(last, pass("A", ""))
	var place []int
	for range deep - 1 {
		s := parallel("P", "", m)
		s.Result = way("null") // else the results would be too deep
		m = machine(s)
		place = append(place, 1, 1, 0)
	}
	first, second := contest(append(slices.Clone(place), 1, 1), 0, 0), contest(append(slices.Clone(place), 1, 2), 0, 0)
	wants(t, "deep", of(m, "1"), done("1", 2*(deep-1)+2+2+2+1), first, second)
}
