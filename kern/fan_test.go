package kern_test

import (
	"fmt"
	"slices"
	"strings"
	"testing"

	"voyage/api"
	"voyage/json"
	"voyage/kern"
)

// row is a list of so many numbers.
func row(n int) api.Value {
	v := api.Value{Kind: api.List}
	for i := range n {
		v.List = append(v.List, val(fmt.Sprint(i)))
	}
	return json.Norm(v)
}

// TestParallelOfNone holds that a Parallel without parts is Fanned, and joined at once.
func TestParallelOfNone(t *testing.T) {
	m, in := machine(parallel("P", "")), val("1")
	c := after(t, m, in, 1)
	wantConfig(t, "Fanned", c, api.Config{Fuel: 1, Frames: []api.Frame{{At: "P", Visit: 1, Attempt: 1, Raw: in, Index: -1, Phase: api.Fanned}}})
	wantTurns(t, m, c, 0, 0)
	wantDone(t, "joined", moves(t, m, in, c, 0, 0, noOutcome, event(api.EvJoined)), "[]")
}

// TestParallelOfMany holds MaxParts parts, and one more.
func TestParallelOfMany(t *testing.T) {
	in := val("[1]")
	s := parallel("P", "", slices.Repeat([]api.Machine{machine(pass("A", ""))}, api.MaxParts)...)
	m := machine(s)
	c := after(t, m, in, 3)
	if len(c.Frames) != api.MaxParts+1 {
		t.Fatalf("%d frames", len(c.Frames))
	}
	for i, f := range c.Frames[1:] {
		if !same(f, api.Frame{Place: []int{1, 1, i}, At: "A", Visit: 1, Attempt: 1, Left: 2, Raw: in, Index: -1}) {
			t.Fatalf("%d: %+v", i, f)
		}
	}
	if turns := kern.Turns(m, c, 0); len(turns) != api.MaxParts || turns[0] != 1 {
		t.Errorf("%d turns", len(turns))
	}
	s.Parts = append(s.Parts, machine(pass("A", "")))
	wantFailed(t, "one more", after(t, machine(s), in, 3), "P", runtime, "")
	s.Retry = []api.Retrier{retries(1, runtime)}
	if c = after(t, machine(s), in, 3); len(c.Frames) != 1 || c.Frames[0].Phase != api.Delayed {
		t.Errorf("one more, retried: %s", shown(c))
	}
}

// TestParallelInput holds what parts begin with, and how much fuel they have.
func TestParallelInput(t *testing.T) {
	in := val(`{"a":{"b":1}}`)
	b := task("B", "")
	b.Retry = []api.Retrier{retries(1, "x"), retries(1, "y")}
	s := parallel("P", "", machine(pass("A", "")), api.Machine{Start: "B", States: []api.State{pass("A", ""), b}})
	s.Input = way("$.a")
	s.HasParameters, s.Parameters = true, val(`{"x.$":"$.b"}`)
	m := machine(pass("Z", "P"), s)
	_, c := goes(t, m, in, kern.Begin(m, in, 9), 0, 0, noOutcome)
	c.Frames[0].Attempt = 3
	_, c = goes(t, m, in, c, 0, 0, noOutcome)
	wantConfig(t, "Fanned", c, api.Config{Fuel: 9, Frames: []api.Frame{
		{At: "P", Visit: 2, Attempt: 3, Left: 7, Raw: in, Index: -1, Phase: api.Fanned},
		{Place: []int{2, 3, 0}, At: "A", Visit: 1, Attempt: 1, Left: 8, Raw: val(`{"x":1}`), Index: -1},
		{Place: []int{2, 3, 1}, At: "B", Visit: 1, Attempt: 1, Left: 8, Raw: val(`{"x":1}`), Index: -1, Charged: []int{0, 0}},
	}})
	m.States[1].Input = way("$.q")
	wantFailed(t, "In has an error", ends(t, m, in, 9, echo), "P", runtime, "")
}

// TestPartsThatCantBegin holds that the first part that FAILS as it ENTERs decides, and that no part stays.
func TestPartsThatCantBegin(t *testing.T) {
	in := val("1")
	good, lost, none := machine(task("A", "")), api.Machine{Start: "gone", States: []api.State{pass("A", "")}}, machine(api.State{Name: "A"})
	for i, bad := range [][]api.Machine{{lost}, {none}, {good, lost}, {lost, good}, {good, none, good}, {good, {}, good}} {
		s := parallel("P", "", bad...)
		wantFailed(t, fmt.Sprint(i), after(t, machine(s), in, 5), "P", runtime, "")
		s.Retry = []api.Retrier{retries(1, "x"), retries(1, runtime)}
		c := after(t, machine(s), in, 5)
		wantConfig(t, fmt.Sprint(i, ", retried"), c, api.Config{Fuel: 5, Frames: []api.Frame{{At: "P", Visit: 1, Attempt: 1, Left: 4, Raw: in, Index: -1, Phase: api.Delayed, Delay: 2, Back: true, Charged: []int{0, 1}}}})
		s.Retry, s.Catch = nil, []api.Catcher{catches("B", "$.e", runtime)}
		wantFailed(t, fmt.Sprint(i, ", caught where nothing can be put"), after(t, machine(s, pass("B", "")), in, 5), "P", resultPath, "")
		s.Catch[0].Result = way("$")
		c = after(t, machine(s, pass("B", "")), in, 5)
		wantConfig(t, fmt.Sprint(i, ", caught"), c, api.Config{Fuel: 5, Frames: []api.Frame{{At: "B", Visit: 2, Attempt: 1, Left: 3, Raw: val(`{"Error":"States.Runtime","Cause":""}`), Index: -1}}})
	}
	// by hand there may be no fuel for parts, but some for the whole
	s := parallel("P", "", good, lost)
	s.Retry, s.Catch = []api.Retrier{retries(1, all)}, []api.Catcher{catches("P", "$", all, outOfFuel)}
	c := moves(t, machine(s), in, api.Config{Frames: []api.Frame{at("P")}}, 0, 0, noOutcome, event(api.EvMoved))
	wantFailed(t, "no fuel", c, "P", outOfFuel, "")
	c = moves(t, machine(s), in, api.Config{Fuel: 1, Frames: []api.Frame{at("P")}}, 0, 0, noOutcome, event(api.EvMoved))
	if c.Frames[0].Phase != api.Delayed {
		t.Errorf("fuel 1: %s", shown(c))
	}
}

// TestMapItems holds which items a Map has.
func TestMapItems(t *testing.T) {
	s := mapped("M", "", 0, machine(task("T", "")))
	s.Items = way("$.l")
	in := val(`{"l":[10,{"a":1},null],"n":5,"t":"x","o":{"0":1}}`)
	c := after(t, machine(s), in, 3)
	wantConfig(t, "Fanned", c, api.Config{Fuel: 3, Frames: []api.Frame{
		{At: "M", Visit: 1, Attempt: 1, Left: 2, Raw: in, Index: -1, Phase: api.Fanned},
		{Place: []int{1, 1, 0}, At: "T", Visit: 1, Attempt: 1, Left: 2, Raw: val("10"), Item: val("10"), Index: 0},
		{Place: []int{1, 1, 1}, At: "T", Visit: 1, Attempt: 1, Left: 2, Raw: val(`{"a":1}`), Item: val(`{"a":1}`), Index: 1},
		{Place: []int{1, 1, 2}, At: "T", Visit: 1, Attempt: 1, Left: 2, Raw: val("null"), Item: val("null"), Index: 2},
	}})
	for _, items := range []string{"$.n", "$.t", "$.o", "$.q", "$.l[0]", "null", "$", "$$", "$$.Map.Item.Value"} {
		s.Items = way(items)
		wantFailed(t, items, after(t, machine(s), in, 3), "M", runtime, "")
	}
	s.Items = api.Path{} // it isn't told: the input itself
	c = after(t, machine(s), val("[7]"), 3)
	if len(c.Frames) != 2 || !same(c.Frames[1].Item, val("7")) {
		t.Errorf("the input itself: %s", shown(c))
	}
	s.Items, s.Input = way("$[-1]"), way("$.l")
	if c = after(t, machine(s), val(`{"l":[[1],[2,3]]}`), 3); len(c.Frames) != 3 || !same(c.Frames[2].Item, val("3")) {
		t.Errorf("behind InputPath: %s", shown(c))
	}
	s.Items, s.Input = way("$$.Execution.Input.l"), way("$.n")
	if c = after(t, machine(s), in, 3); len(c.Frames) != 4 {
		t.Errorf("of the context: %s", shown(c))
	}
	s.Input = way("$.q")
	wantFailed(t, "In has an error", after(t, machine(s), in, 3), "M", runtime, "")
}

// TestMapOfNone holds a Map over an empty list, and one without Parts.
func TestMapOfNone(t *testing.T) {
	for _, most := range []int{0, 1, 5} {
		m, in := machine(mapped("M", "", most, machine(fails("F", "e", "")))), val("[]")
		c := after(t, m, in, 1)
		wantConfig(t, "Fanned", c, api.Config{Fuel: 1, Frames: []api.Frame{{At: "M", Visit: 1, Attempt: 1, Raw: in, Index: -1, Phase: api.Fanned}}})
		wantDone(t, "joined", moves(t, m, in, c, 0, 0, noOutcome, event(api.EvJoined)), "[]")
		m.States[0].Parts = nil
		wantFailed(t, "no Parts, no items", after(t, m, in, 1), "M", runtime, "")
		wantFailed(t, "no Parts", after(t, m, val("[1]"), 1), "M", runtime, "")
	}
	m := machine(mapped("M", "", 0, api.Machine{Start: "gone"})) // no part ENTERs it
	wantDone(t, "no items for a part that can't begin", ends(t, m, val("[]"), 2, echo), "[]")
}

// TestMapOfMany holds MaxParts items, and one more.
func TestMapOfMany(t *testing.T) {
	m := machine(mapped("M", "", 0, machine(pass("A", ""))))
	m.States[0].Parts = append(m.States[0].Parts, machine(fails("A", "e", ""))) // only the first one counts
	items := row(api.MaxParts)
	c := after(t, m, items, 3)
	if len(c.Frames) != api.MaxParts+1 {
		t.Fatalf("%d frames", len(c.Frames))
	}
	for i, f := range c.Frames[1:] {
		if !same(f, api.Frame{Place: []int{1, 1, i}, At: "A", Visit: 1, Attempt: 1, Left: 2, Raw: items.List[i], Item: items.List[i], Index: i}) {
			t.Fatalf("%d: %+v", i, f)
		}
	}
	for i := range c.Frames[1:] {
		c.Frames[i+1].Phase, c.Frames[i+1].Result = api.Done, c.Frames[i+1].Raw
	}
	d := moves(t, m, row(1), c, 0, 0, noOutcome, event(api.EvJoined))
	if f := d.Frames[0]; len(d.Frames) != 1 || f.Phase != api.Done || !same(f.Result, items) {
		t.Errorf("joined: %s", shown(d))
	}
	wantFailed(t, "one more", after(t, m, row(api.MaxParts+1), 3), "M", runtime, "")
}

// TestMapParameters holds what parts begin with where a Map has Parameters, and what is wrong with them in the middle.
func TestMapParameters(t *testing.T) {
	s := mapped("M", "", 0, machine(task("T", "")))
	s.Items = way("$.l")
	s.Parameters = val(`{"i.$":"$$.Map.Item.Index","v.$":"$$.Map.Item.Value.a","n.$":"$.n","s.$":"$$.State.Name","f":1}`)
	in := val(`{"l":[{"a":10},{"a":20}],"n":5}`)
	if c := after(t, machine(s), in, 3); !same(c.Frames[1].Raw, val(`{"a":10}`)) {
		t.Errorf("Parameters without HasParameters: %s", shown(c))
	}
	s.HasParameters = true
	c := after(t, machine(s), in, 3)
	wantConfig(t, "Fanned", c, api.Config{Fuel: 3, Frames: []api.Frame{
		{At: "M", Visit: 1, Attempt: 1, Left: 2, Raw: in, Index: -1, Phase: api.Fanned},
		{Place: []int{1, 1, 0}, At: "T", Visit: 1, Attempt: 1, Left: 2, Raw: val(`{"i":0,"v":10,"n":5,"s":"M","f":1}`), Item: val(`{"a":10}`), Index: 0},
		{Place: []int{1, 1, 1}, At: "T", Visit: 1, Attempt: 1, Left: 2, Raw: val(`{"i":1,"v":20,"n":5,"s":"M","f":1}`), Item: val(`{"a":20}`), Index: 1},
	}})
	wantFailed(t, "an item in the middle", after(t, machine(s), val(`{"l":[{"a":10},{},{"a":20}],"n":5}`), 3), "M", parameters, "")
	s.Retry = []api.Retrier{retries(1, parameters)}
	c = after(t, machine(s), val(`{"l":[{"a":10},{},{"a":20}],"n":5}`), 3)
	if len(c.Frames) != 1 || c.Frames[0].Phase != api.Delayed {
		t.Errorf("an item in the middle, retried: %s", shown(c))
	}
	s.Retry = nil
	s.Parameters = val(`{"x.$":"States.MathAdd($$.Map.Item.Value, 1)"}`)
	wantFailed(t, "a call that can't be reckoned", after(t, machine(s), val(`{"l":[1,"x"]}`), 3), "M", parameters, "")
	s.Parameters = val(`{"x.$":"$","y.$":"$$.Map.Item.Value"}`)
	half := strings.Repeat("x", api.MaxText/2)
	long := api.Value{Kind: api.Object, Fields: []api.Field{{Name: "l", Value: api.Value{Kind: api.List, List: []api.Value{val("1"), text(half)}}}}}
	wantFailed(t, "above the bound", after(t, machine(s), long, 3), "M", limit, "")
	c = after(t, machine(s), val(`{"l":[]}`), 3) // no item, nothing to fill
	if c.Frames[0].Phase != api.Fanned {
		t.Errorf("no items: %s", shown(c))
	}
}

// TestMapFirstWrong holds that each part ENTERs behind its own filling, and that the first thing that is wrong decides.
func TestMapFirstWrong(t *testing.T) {
	s := mapped("M", "", 0, api.Machine{Start: "gone"})
	s.HasParameters, s.Parameters = true, val(`{"v.$":"$$.Map.Item.Value.a"}`)
	for in, want := range map[string]string{`[{"a":1},{}]`: runtime, `[{},{"a":1}]`: parameters, `[{"a":1}]`: runtime, `[{}]`: parameters} {
		wantFailed(t, in, after(t, machine(s), val(in), 3), "M", want, "")
	}
	s.Parts[0] = machine(task("T", ""))
	c := moves(t, machine(s), val("1"), api.Config{Frames: []api.Frame{func() api.Frame { f := at("M"); f.Raw = val(`[{"a":1},{}]`); return f }()}}, 0, 0, noOutcome, event(api.EvMoved))
	wantFailed(t, "no fuel for the first, nothing to fill of the second", c, "M", outOfFuel, "")
	c = moves(t, machine(s), val("1"), api.Config{Frames: []api.Frame{func() api.Frame { f := at("M"); f.Raw = val(`[{},{"a":1}]`); return f }()}}, 0, 0, noOutcome, event(api.EvMoved))
	wantFailed(t, "the other way round", c, "M", parameters, "")
}

// TestJoin holds that a fan-out FINISHes with the list of its parts' results, in their order.
func TestJoin(t *testing.T) {
	s := parallel("P", "B", machine(task("T", "")), machine(task("T", "")), machine(task("T", "")))
	s.Result, s.HasSelector, s.Selector = way("$.r"), true, val(`{"s.$":"$[1]","all.$":"$","n.$":"$$.State.Name"}`)
	m := machine(s, pass("B", ""))
	done := func(i int, result string) api.Frame {
		f := phased(at("T", 1, 1, i), api.Done)
		f.Result = val(result)
		return f
	}
	whole := phased(at("P"), api.Fanned)
	whole.Raw = val(`{"x":1}`)
	c := config(whole, done(0, `"a"`), done(1, `["b"]`), done(2, "null"))
	d := moves(t, m, val("1"), c, 0, 5, fine("1"), event(api.EvJoined))
	wantConfig(t, "joined", d, config(api.Frame{At: "B", Visit: 2, Attempt: 1, Left: 2, Raw: val(`{"x":1,"r":{"s":["b"],"all":["a",["b"],null],"n":"P"}}`), Index: -1}))
	c.Frames[0].Raw = val("1")
	wantFailed(t, "Out has an error", moves(t, m, val("1"), c, 0, 5, fine("1"), event(api.EvJoined)), "P", resultPath, "")
	m.States[0].Retry = []api.Retrier{retries(1, resultPath)}
	d = moves(t, m, val("1"), c, 0, 5, fine("1"), event(api.EvJoined))
	if len(d.Frames) != 1 || d.Frames[0].Phase != api.Delayed {
		t.Errorf("Out has an error, retried: %s", shown(d))
	}
	m.States[0].Next, m.States[0].Result, m.States[0].HasSelector = "", api.Path{}, false
	wantDone(t, "at the end", moves(t, m, val("1"), c, 0, 5, noOutcome, event(api.EvJoined)), `["a",["b"],null]`)
	for i := 1; i <= 3; i++ { // as long as one isn't Done
		d := config(slices.Clone(c.Frames)...)
		d.Frames[i].Phase = api.Asked
		refused(t, m, val("1"), d, event(api.EvJoined))
		wantTurns(t, m, d, last, i)
	}
	long := strings.Repeat("x", api.MaxText/2)
	c.Frames[1].Result, c.Frames[2].Result = text(long), text(long)
	m.States[0].Retry = nil
	wantFailed(t, "too long together", moves(t, m, val("1"), c, 0, 5, noOutcome, event(api.EvJoined)), "P", limit, "")
}

// TestFanOutAgain holds that a fan-out that is retried has new parts, at new places.
func TestFanOutAgain(t *testing.T) {
	s := parallel("P", "", machine(task("T", "")), machine(task("T", "")))
	s.Retry = []api.Retrier{retries(2, "e")}
	m, in := machine(s), val("7")
	_, c := goes(t, m, in, kern.Begin(m, in, 5), 0, 0, noOutcome)
	_, c = goes(t, m, in, c, 1, 0, noOutcome)
	_, c = goes(t, m, in, c, 1, 0, fine("1"))
	_, c = goes(t, m, in, c, 2, 0, noOutcome)
	_, c = goes(t, m, in, c, 2, 0, wrong("e", "c"))
	wantConfig(t, "Delayed", c, api.Config{Fuel: 5, Frames: []api.Frame{{At: "P", Visit: 1, Attempt: 1, Left: 4, Raw: in, Index: -1, Phase: api.Delayed, Delay: 2, Back: true, Charged: []int{1}}}})
	_, c = goes(t, m, in, c, 0, 10, noOutcome)
	_, c = goes(t, m, in, c, 0, 12, noOutcome)
	_, c = goes(t, m, in, c, 0, 12, noOutcome)
	wantConfig(t, "again", c, api.Config{Fuel: 5, Frames: []api.Frame{
		{At: "P", Visit: 1, Attempt: 2, Left: 4, Raw: in, Index: -1, Phase: api.Fanned, Charged: []int{1}},
		{Place: []int{1, 2, 0}, At: "T", Visit: 1, Attempt: 1, Left: 4, Raw: in, Index: -1},
		{Place: []int{1, 2, 1}, At: "T", Visit: 1, Attempt: 1, Left: 4, Raw: in, Index: -1},
	}})
	refused(t, m, in, c, event(api.EvAsked, 1, 1, 0))
	taken(t, m, in, c, event(api.EvAsked, 1, 2, 0))
}
