package kern_test

import (
	"fmt"
	"strings"
	"testing"

	"voyage/api"
	"voyage/kern"
)

// askedOf is a task's frame that is Asked, by hand.
func askedOf(charged ...int) api.Frame {
	f := phased(at("T"), api.Asked)
	f.Raw, f.Charged = val(`{"x":[1]}`), charged
	return f
}

// TestRetriers holds which retrier takes an error, how long it waits, and when it is used up.
func TestRetriers(t *testing.T) {
	s := task("T", "")
	s.Retry = []api.Retrier{retries(2, "a"), retries(1, "b", "c"), {Errors: []string{all}, Interval: 7, Most: 1, Rate: api.Dec{Digits: "1"}}}
	s.Catch = []api.Catcher{catches("B", "$.e", "a", "c")}
	m := machine(s, pass("B", ""))
	for _, x := range []struct {
		name    string
		charged []int
		want    []int // none: it is caught, or FAILS
		delay   int64
	}{
		{"a", []int{0, 0, 0}, []int{1, 0, 0}, 2}, {"a", []int{1, 0, 0}, []int{2, 0, 0}, 4}, {"a", []int{2, 0, 0}, nil, 0}, {"a", []int{5, 0, 0}, nil, 0},
		{"b", []int{2, 0, 0}, []int{2, 1, 0}, 2}, {"c", []int{0, 0, 0}, []int{0, 1, 0}, 2}, {"c", []int{0, 1, 0}, nil, 0}, {"b", []int{0, 1, 0}, nil, 0},
		{"d", []int{2, 1, 0}, []int{2, 1, 1}, 7}, {"d", []int{2, 1, 1}, nil, 0}, {"", []int{0, 0, 0}, []int{0, 0, 1}, 7}, {outOfFuel, []int{0, 0, 0}, nil, 0},
		{"a", nil, []int{1}, 2}, {"d", nil, []int{0, 0, 1}, 7}, {"a", []int{-3, -1, 4, 5}, []int{1, -1, 4, 5}, 2}, {"d", []int{9}, []int{9, 0, 1}, 7},
	} {
		c := config(askedOf(x.charged...))
		d := moves(t, m, val("1"), c, 0, 0, wrong(x.name, "why"), toldEvent(wrong(x.name, "why")))
		caught := x.name == "a" || x.name == "c"
		switch f := d.Frames[0]; {
		case x.want != nil:
			f = c.Frames[0]
			f.Phase, f.Charged, f.Delay, f.Back = api.Delayed, x.want, x.delay, true
			wantConfig(t, fmt.Sprint(x), d, config(f))
		case caught && (f.At != "B" || f.Phase != api.Ready):
			t.Errorf("%v: %s", x, shown(d))
		case !caught:
			wantFailed(t, fmt.Sprint(x), d, "T", x.name, "why")
			if !same(f.Charged, x.charged) {
				t.Errorf("%v: %s", x, shown(d))
			}
		}
	}
}

// TestCatchers holds which catcher takes an error, and what is put where.
func TestCatchers(t *testing.T) {
	s := task("T", "")
	m := machine(s, pass("B", ""), api.State{Name: "D", Type: api.Task, Retry: []api.Retrier{retries(1, all), retries(1, all)}}, api.State{Name: "N"})
	for _, x := range []struct {
		catch []api.Catcher
		at    string
		raw   string // what it is, or an error
	}{
		{[]api.Catcher{catches("B", "$", "e")}, "B", `{"Error":"e","Cause":"why"}`},
		{[]api.Catcher{{Errors: []string{"e"}, Next: "B"}}, "B", `{"Error":"e","Cause":"why"}`}, // no path is told
		{[]api.Catcher{catches("B", "null", "e")}, "B", `{"x":[1]}`},
		{[]api.Catcher{{Errors: []string{"e"}, Next: "B", Result: api.Path{Nothing: true, Steps: way("$.q").Steps}}}, "B", `{"x":[1]}`},
		{[]api.Catcher{catches("B", "$.w", "e")}, "B", `{"x":[1],"w":{"Error":"e","Cause":"why"}}`},
		{[]api.Catcher{catches("B", "$.v.w", "e")}, "B", `{"x":[1],"v":{"w":{"Error":"e","Cause":"why"}}}`},
		{[]api.Catcher{catches("B", "$.x[0]", "e")}, "B", `{"x":[{"Error":"e","Cause":"why"}]}`},
		{[]api.Catcher{catches("B", "$.x[1]", "e")}, "", resultPath}, {[]api.Catcher{catches("B", "$.x.y", "e")}, "", resultPath}, {[]api.Catcher{catches("B", "$[0]", "e")}, "", resultPath}, {[]api.Catcher{catches("B", "$.x[-1]", "e")}, "", resultPath}, {[]api.Catcher{catches("B", "$$.x", "e")}, "", resultPath},
		{[]api.Catcher{catches("B", "$[0]", "e"), catches("B", "$", all)}, "", resultPath}, // it isn't trouble again
		{[]api.Catcher{catches("B", "$", "f"), catches("D", "$", all)}, "D", `{"Error":"e","Cause":"why"}`},
		{[]api.Catcher{catches("D", "$", "f", "e"), catches("B", "$", all)}, "D", `{"Error":"e","Cause":"why"}`},
		{[]api.Catcher{catches("T", "$.w", "e")}, "T", `{"x":[1],"w":{"Error":"e","Cause":"why"}}`},
		{[]api.Catcher{catches("gone", "$", "e"), catches("B", "$", all)}, "", runtime}, {[]api.Catcher{catches("N", "$", "e")}, "", runtime}, {[]api.Catcher{catches("", "$", "e")}, "", runtime},
		{[]api.Catcher{catches("B", "$", "f")}, "", "e"}, {nil, "", "e"},
	} {
		m.States[0].Catch = x.catch
		c := config(askedOf())
		d := moves(t, m, val("1"), c, 0, 0, wrong("e", "why"), toldEvent(wrong("e", "why")))
		what := fmt.Sprint(x.catch)
		switch {
		case x.at == "" && x.raw == "e":
			wantFailed(t, what, d, "T", "e", "why")
		case x.at == "":
			wantFailed(t, what, d, "T", x.raw, "")
			if left := d.Frames[0].Left; x.raw == runtime && left != 2 || x.raw == resultPath && left != 3 {
				t.Errorf("%s: %s", what, shown(d))
			}
		default:
			f := api.Frame{At: x.at, Visit: 2, Attempt: 1, Left: 2, Raw: val(x.raw), Index: -1}
			if x.at == "D" {
				f.Charged = []int{0, 0}
			}
			wantConfig(t, what, d, config(f))
		}
	}
	m.States[0].Catch = []api.Catcher{catches("B", "$", all)}
	c := config(askedOf())
	c.Frames[0].Left = 0
	wantFailed(t, "no fuel", moves(t, m, val("1"), c, 0, 0, wrong("e", "why"), toldEvent(wrong("e", "why"))), "T", outOfFuel, "")
	wantFailed(t, "nothing speaks of it", moves(t, m, val("1"), config(askedOf()), 0, 0, wrong(outOfFuel, "why"), toldEvent(wrong(outOfFuel, "why"))), "T", outOfFuel, "why")
}

// TestCatchOfTexts holds that an error's name and cause count in a value as json has it, and that what is put need not be sound.
func TestCatchOfTexts(t *testing.T) {
	s := parallel("P", "", machine(fails("F", "e\xff", "\xfec")))
	s.Catch = []api.Catcher{catches("B", "$.w", "e\xff")}
	m := machine(s, pass("B", ""))
	_, c := goes(t, m, val("{}"), kern.Begin(m, val("{}"), 5), 0, 0, noOutcome)
	_, c = goes(t, m, val("{}"), c, 1, 0, noOutcome)
	if f := c.Frames[0]; len(c.Frames) != 1 || f.At != "B" || !same(f.Raw, val(`{"w":{"Error":"e\ufffd","Cause":"\ufffdc"}}`)) {
		t.Errorf("caught: %s", shown(c))
	}
	m.States[0].Catch[0].Errors = []string{"e\ufffd"} // names are the same bytes, or others
	_, c = goes(t, m, val("{}"), kern.Begin(m, val("{}"), 5), 0, 0, noOutcome)
	_, c = goes(t, m, val("{}"), c, 1, 0, noOutcome)
	wantFailed(t, "not caught", c, "P", "e\xff", "\xfec")
	m = machine(task("T", ""), pass("B", ""))
	m.States[0].Catch = []api.Catcher{catches("B", "$.w", all)}
	c = config(askedOf())
	c.Frames[0].Raw = api.Value{Kind: api.Object, Fields: []api.Field{{Name: "l", Value: text(strings.Repeat("x", api.MaxText-10))}}}
	_, c = goes(t, m, val("{}"), c, 0, 0, wrong("e", ""))
	if c.Frames[0].At != "B" || c.Frames[0].Phase != api.Ready {
		t.Fatalf("caught, too long: %s", shown(c))
	}
	_, c = goes(t, m, val("{}"), c, 0, 0, noOutcome)
	wantFailed(t, "the next state finds it too long", c, "B", limit, "")
}

// TestTroubleOfFinishing holds that what can't come out is trouble, which may be retried or caught.
func TestTroubleOfFinishing(t *testing.T) {
	s := task("T", "")
	s.Result = way("$.x.y")
	s.Retry, s.Catch = []api.Retrier{retries(1, resultPath)}, []api.Catcher{catches("B", "null", resultPath)}
	m := machine(s, pass("B", ""))
	calls := 0
	c := ends(t, m, val(`{"x":1}`), 5, func(api.Key) api.Outcome { calls++; return fine("7") })
	wantDone(t, "retried, then caught", c, `{"x":1}`)
	if calls != 2 {
		t.Errorf("%d calls", calls)
	}
	m.States[0].Catch[0].Errors = []string{"other"}
	wantFailed(t, "retried, then not caught", ends(t, m, val(`{"x":1}`), 5, echo), "T", resultPath, "")
	m.States[0].Retry, m.States[0].Catch = nil, []api.Catcher{catches("gone", "$", all)}
	c = ends(t, m, val(`{"x":1}`), 5, echo) // that its Next is none is no trouble of the Task
	wantFailed(t, "caught, to nowhere", c, "T", runtime, "")
	m.States[0].Result, m.States[0].Next = api.Path{}, "gone"
	m.States[0].Retry = []api.Retrier{retries(5, all)}
	wantFailed(t, "finished, to nowhere", ends(t, m, val(`{"x":1}`), 5, echo), "T", runtime, "")
}

// deepFan is three fan-outs in one another, with a task and a neighbour within each.
func deepFan() api.Machine {
	inner := machine(parallel("I", "", machine(task("T", "")), machine(task("N", ""))))
	middle := machine(mapped("M", "", 0, inner))
	return machine(parallel("O", "", machine(task("N", "")), middle), pass("B", ""))
}

// deepRun runs it till the task of the innermost one is Asked: the frames are O, N, M, I, T, N.
func deepRun(t *testing.T, m api.Machine) api.Config {
	t.Helper()
	in := val("[7]")
	_, c := goes(t, m, in, kern.Begin(m, in, 9), 0, 0, noOutcome)
	_, c = goes(t, m, in, c, 2, 0, noOutcome)
	_, c = goes(t, m, in, c, 3, 0, noOutcome)
	_, c = goes(t, m, in, c, 4, 0, noOutcome)
	if len(c.Frames) != 6 || c.Frames[4].Phase != api.Asked || !same(c.Frames[4].Place, []int{1, 1, 1, 1, 1, 0, 1, 1, 0}) {
		t.Fatalf("deep: %s", shown(c))
	}
	return c
}

// TestErrorsGoUp holds that an error of a part goes up through fan-outs till one retries or catches it; all parts within that one go.
func TestErrorsGoUp(t *testing.T) {
	in := val("[7]")
	fell := func(m api.Machine) api.Config {
		_, d := goes(t, m, in, deepRun(t, m), 4, 0, wrong("e", "why"))
		return d
	}
	wantFailed(t, "nothing takes it", fell(deepFan()), "O", "e", "why")
	inner := func(m api.Machine) *api.State { return &m.States[0].Parts[1].States[0].Parts[0].States[0] }
	middle := func(m api.Machine) *api.State { return &m.States[0].Parts[1].States[0] }
	for level, of := range map[int]func(m api.Machine) *api.State{3: inner, 2: middle, 0: func(m api.Machine) *api.State { return &m.States[0] }} {
		m := deepFan()
		of(m).Retry = []api.Retrier{retries(1, "x"), retries(1, "e")}
		before := deepRun(t, m)
		d := fell(m)
		want := api.Config{Fuel: 9, Frames: before.Frames[:level+1]}
		f := &want.Frames[level]
		f.Phase, f.Delay, f.Back, f.Charged = api.Delayed, 2, true, []int{0, 1}
		wantConfig(t, fmt.Sprint("retried at ", level), d, want)
		m = deepFan()
		of(m).Catch = []api.Catcher{catches("nowhere", "$", "x"), catches(of(m).Name, "$[0]", "e")}
		if level == 3 {
			of(m).Catch[1].Result = way("$") // its input is no list
		}
		d = fell(m)
		want = api.Config{Fuel: 9, Frames: deepRun(t, m).Frames[:level+1]}
		f = &want.Frames[level]
		f.Phase, f.Visit, f.Left, f.Raw = api.Ready, 2, f.Left-1, val(`[{"Error":"e","Cause":"why"}]`)
		if level == 3 {
			f.Raw = val(`{"Error":"e","Cause":"why"}`)
		}
		wantConfig(t, fmt.Sprint("caught at ", level), d, want)
	}
	m := deepFan() // a retrier that is used up lets it by; one of another name, too; then it is caught above
	inner(m).Retry, inner(m).Catch = []api.Retrier{retries(0, "e"), retries(9, all)}, []api.Catcher{catches("I", "$", "x")}
	middle(m).Catch = []api.Catcher{catches("gone", "null", "e")} // this fails by another error, without a cause
	m.States[0].Catch = []api.Catcher{catches("gone", "$", "e"), catches("B", "$", runtime)}
	d := fell(m)
	wantConfig(t, "up and up", d, api.Config{Fuel: 9, Frames: []api.Frame{{At: "B", Visit: 2, Attempt: 1, Left: 7, Raw: val(`{"Error":"States.Runtime","Cause":""}`), Index: -1}}})
	m = deepFan()
	inner(m).Catch = []api.Catcher{catches("I", "$.q.r", "e")}
	middle(m).Retry = []api.Retrier{retries(1, resultPath)}
	if d = fell(m); len(d.Frames) != 3 || d.Frames[2].Phase != api.Delayed {
		t.Errorf("what can't be put is another error: %s", shown(d))
	}
}

// TestFuelGoesUp holds that States.OutOfFuel of a part is neither retried nor caught, wherever.
func TestFuelGoesUp(t *testing.T) {
	s := parallel("P", "", machine(pass("A", "A")))
	s.Retry, s.Catch = []api.Retrier{retries(5, all, outOfFuel)}, []api.Catcher{catches("B", "$", all)}
	m := machine(s, pass("B", ""))
	wantFailed(t, "a circle in a part", ends(t, m, val("1"), 7, echo), "P", outOfFuel, "")
}

// TestNeighboursGo holds that when a part FAILS only the parts of its fan-out go, not those of others.
func TestNeighboursGo(t *testing.T) {
	inner := machine(parallel("I", "", machine(task("T", "")), machine(task("T", ""))))
	inner.States[0].Catch = []api.Catcher{catches("C", "$", all)}
	inner.States = append(inner.States, pass("C", ""))
	m := machine(parallel("P", "", inner, inner, inner))
	in := val("1")
	_, c := goes(t, m, in, kern.Begin(m, in, 9), 0, 0, noOutcome)
	for _, i := range []int{3, 2, 1} {
		_, c = goes(t, m, in, c, i, 0, noOutcome)
	}
	if len(c.Frames) != 10 {
		t.Fatalf("fanned: %s", shown(c))
	}
	_, c = goes(t, m, in, c, 6, 0, noOutcome)
	_, d := goes(t, m, in, c, 6, 0, wrong("e", ""))
	want := api.Config{Fuel: 9}
	want.Frames = append(want.Frames, c.Frames[:5]...)
	want.Frames[4] = api.Frame{Place: []int{1, 1, 1}, At: "C", Visit: 2, Attempt: 1, Left: 7, Raw: val(`{"Error":"e","Cause":""}`), Index: -1}
	want.Frames = append(want.Frames, c.Frames[7:]...)
	wantConfig(t, "the second one's parts are gone", d, want)
}
