package kern_test

import (
	"math"
	"testing"

	"voyage/api"
	"voyage/kern"
)

// TestTurnsOfPhases holds P15.3: which frames have an event at now.
func TestTurnsOfPhases(t *testing.T) {
	m := nested()
	c := nestedConfig()
	c.Frames[5].Due = 20
	wantTurns(t, m, c, 19, 2, 3, 6)
	wantTurns(t, m, c, 20, 2, 3, 5, 6)
	c.Frames[2].Phase, c.Frames[3].Phase = api.Done, api.Done
	wantTurns(t, m, c, 19, 1, 6)
	c = config(phased(at("P"), api.Fanned), phased(at("M", 1, 1, 0), api.Done), phased(at("W", 1, 1, 1), api.Done), phased(at("T", 1, 1, 2), api.Done))
	wantTurns(t, m, c, 0, 0)
	c.Frames[2].Phase = api.Ready
	wantTurns(t, m, c, 0, 2)
	wantTurns(t, m, config(phased(at("P"), api.Fanned)), 0, 0)
}

// TestTurnsByNow holds P15.3: now counts as a time, Due by hand as it stands.
func TestTurnsByNow(t *testing.T) {
	m := machine(api.State{Name: "W", Type: api.Wait, WaitKind: 1})
	for _, x := range []struct {
		due, now int64
		want     bool
	}{
		{0, 0, true}, {1, 0, false}, {1, 1, true}, {1, 2, true}, {12, 11, false}, {12, 12, true},
		{0, -1, true}, {0, math.MinInt64, true}, {1, -1, false}, {-1, 0, true}, {-1, -5, true}, {math.MinInt64, math.MinInt64, true},
		{api.MaxTime, api.MaxTime - 1, false}, {api.MaxTime, api.MaxTime, true}, {api.MaxTime, math.MaxInt64, true},
		{api.MaxTime + 1, api.MaxTime, false}, {api.MaxTime + 1, api.MaxTime + 1, false}, {api.MaxTime + 1, math.MaxInt64, false}, {math.MaxInt64, math.MaxInt64, false},
	} {
		f := phased(at("W"), api.Waiting)
		f.Due = x.due
		if got := len(kern.Turns(m, config(f), x.now)) == 1; got != x.want {
			t.Errorf("due %d at %d: %v", x.due, x.now, got)
		}
		e, err := kern.Next(m, val("1"), config(f), 0, x.now, noOutcome)
		switch {
		case !x.want && err != api.ErrEvent:
			t.Errorf("due %d at %d: %+v, %v", x.due, x.now, e, err)
		case x.want && (err != nil || !same(e, timed(api.EvFired, min(max(x.now, 0), api.MaxTime)))):
			t.Errorf("due %d at %d: %+v, %v", x.due, x.now, e, err)
		}
	}
}

// parts is a Map's frame with a part for each of these phases.
func parts(phases ...int) api.Config {
	c := config(phased(at("M"), api.Fanned))
	for i, phase := range phases {
		f := phased(at("T", 1, 1, i), phase)
		f.Index, f.Back = i, phase == api.Waiting
		c.Frames = append(c.Frames, f)
	}
	return c
}

// TestMost holds P15.3: of a Map's parts the first Most that aren't Done.
func TestMost(t *testing.T) {
	const r, a, l, w, d = api.Ready, api.Asked, api.Delayed, api.Waiting, api.Done
	events := map[int]api.Event{r: event(api.EvAsked), a: toldEvent(fine("1")), l: timed(api.EvSet, 5), w: timed(api.EvFired, 5), d: event(api.EvMoved)}
	for _, x := range []struct {
		most   int
		phases []int
		want   []int
	}{
		{0, []int{r, a, r}, []int{1, 2, 3}}, {-1, []int{r, a, r}, []int{1, 2, 3}}, {math.MinInt, []int{r, r}, []int{1, 2}},
		{1, []int{r, a, r}, []int{1}}, {2, []int{r, a, r}, []int{1, 2}}, {3, []int{r, a, r}, []int{1, 2, 3}}, {4, []int{r, a, r}, []int{1, 2, 3}}, {math.MaxInt, []int{r, a, r}, []int{1, 2, 3}},
		{1, []int{d, a, r}, []int{2}}, {1, []int{d, d, r}, []int{3}}, {1, []int{r, d, r}, []int{1}}, {1, []int{d, d, d}, []int{0}}, {1, nil, []int{0}}, {1, []int{d, r, d, r}, []int{2}},
		{1, []int{w, w}, []int{1}}, {1, []int{l, l}, []int{1}}, {1, []int{a, w, l}, []int{1}}, {2, []int{w, d, l, a, w}, []int{1, 3}},
		{2, []int{r, d, r, r}, []int{1, 3}}, {2, []int{d, r, d, r, r}, []int{2, 4}}, {2, []int{r, d, d, d}, []int{1}}, {2, []int{d, d, d, r}, []int{4}},
	} {
		m := machine(mapped("M", "", x.most, machine(task("T", ""))))
		c := parts(x.phases...)
		wantTurns(t, m, c, 0, x.want...)
		free := map[int]bool{}
		for _, i := range x.want {
			free[i] = true
		}
		for i := 1; i < len(c.Frames); i++ {
			e := events[c.Frames[i].Phase]
			e.Place = c.Frames[i].Place
			if _, err := kern.Apply(m, val("1"), c, e); (err == nil) != free[i] {
				t.Errorf("Most %d, %v: Apply of %d: %v", x.most, x.phases, i, err)
			}
			if _, err := kern.Next(m, val("1"), c, i, 0, fine("1")); (err == nil) != free[i] {
				t.Errorf("Most %d, %v: Next of %d: %v", x.most, x.phases, i, err)
			}
			if _, is := kern.Key(m, val("1"), c, i); is != (c.Frames[i].Phase == a) {
				t.Errorf("Most %d, %v: Key of %d: %v", x.most, x.phases, i, is)
			}
		}
	}
}

// TestMostOfParts holds P15.3: parts that are held back are so with all theirs; a Map within another one holds back on its own.
func TestMostOfParts(t *testing.T) {
	inner := machine(mapped("N", "", 1, machine(task("T", ""))))
	m := machine(mapped("M", "", 2, inner), pass("A", ""))
	fan := func(place ...int) api.Frame { return phased(at("N", place...), api.Fanned) }
	c := config(phased(at("M"), api.Fanned),
		fan(1, 1, 0), at("T", 1, 1, 0, 1, 1, 0), at("T", 1, 1, 0, 1, 1, 1),
		phased(at("N", 1, 1, 1), api.Done),
		fan(1, 1, 2), phased(at("T", 1, 1, 2, 1, 1, 0), api.Done), at("T", 1, 1, 2, 1, 1, 1),
		fan(1, 1, 3), at("T", 1, 1, 3, 1, 1, 0),
		fan(1, 1, 4), phased(at("T", 1, 1, 4, 1, 1, 0), api.Done),
		at("N", 1, 1, 5))
	wantTurns(t, m, c, 0, 2, 7)
	in := val("1")
	refused(t, m, in, c, event(api.EvAsked, 1, 1, 0, 1, 1, 1))
	refused(t, m, in, c, event(api.EvAsked, 1, 1, 3, 1, 1, 0))
	refused(t, m, in, c, event(api.EvJoined, 1, 1, 4))
	refused(t, m, in, c, event(api.EvMoved, 1, 1, 5))
	taken(t, m, in, c, event(api.EvAsked, 1, 1, 0, 1, 1, 0))
	taken(t, m, in, c, event(api.EvAsked, 1, 1, 2, 1, 1, 1))
	m.States[0].Most = 3
	wantTurns(t, m, c, 0, 2, 7, 9)
	m.States[0].Most = 4
	wantTurns(t, m, c, 0, 2, 7, 9, 10)
	m.States[0].Most = 0
	wantTurns(t, m, c, 0, 2, 7, 9, 10, 12)
}

// TestMostOfParallel holds P15.3: a Parallel holds none back, whatever its Most.
func TestMostOfParallel(t *testing.T) {
	part := machine(task("T", ""))
	s := parallel("P", "", part, part)
	s.Most = 1
	m := machine(s)
	_, c := goes(t, m, val("1"), kern.Begin(m, val("1"), 5), 0, 0, noOutcome)
	wantTurns(t, m, c, 0, 1, 2)
	taken(t, m, val("1"), c, event(api.EvAsked, 1, 1, 1))
}

// TestMostAsARunGoesOn holds P15.3: with Most 2 each part that is Done lets the next one begin.
func TestMostAsARunGoesOn(t *testing.T) {
	m, in := machine(mapped("M", "", 2, machine(task("T", "")))), val(`["a","b","c","d"]`)
	_, c := goes(t, m, in, kern.Begin(m, in, 5), 0, 0, noOutcome)
	wantTurns(t, m, c, 0, 1, 2)
	_, c = goes(t, m, in, c, 2, 0, noOutcome)
	wantTurns(t, m, c, 0, 1, 2)
	_, c = goes(t, m, in, c, 2, 0, fine("2"))
	wantTurns(t, m, c, 0, 1, 3)
	_, c = goes(t, m, in, c, 3, 0, noOutcome)
	_, c = goes(t, m, in, c, 3, 0, fine("3"))
	wantTurns(t, m, c, 0, 1, 4)
	_, c = goes(t, m, in, c, 1, 0, noOutcome)
	_, c = goes(t, m, in, c, 1, 0, fine("1"))
	wantTurns(t, m, c, 0, 4)
	_, c = goes(t, m, in, c, 4, 0, noOutcome)
	_, c = goes(t, m, in, c, 4, 0, fine("4"))
	wantTurns(t, m, c, 0, 0)
	_, c = goes(t, m, in, c, 0, 0, noOutcome)
	wantDone(t, "joined", c, "[1,2,3,4]")
}

// TestKey holds P15.4.
func TestKey(t *testing.T) {
	s := task("T", "")
	s.Resource, s.Input = "r\xff", way("$.a")
	s.HasParameters, s.Parameters = true, val(`{"p.$":"$.b","n.$":"$$.State.Name","c.$":"$$.State.RetryCount","i.$":"$$.Execution.Input.x"}`)
	m := machine(parallel("P", "", machine(pass("A", "")), machine(s)))
	f := phased(at("T", 1, 1, 1), api.Asked)
	f.Visit, f.Attempt, f.Raw = 5, 3, val(`{"a":{"b":[7]}}`)
	c := config(phased(at("P"), api.Fanned), at("A", 1, 1, 0), f)
	in := val(`{"x":"y"}`)
	want := api.Key{Place: []int{1, 1, 1}, Visit: 5, Attempt: 3, Resource: "r\xff", Input: val(`{"p":[7],"n":"T","c":2,"i":"y"}`)}
	if k, is := kern.Key(m, in, c, 2); !is || !same(k, want) {
		t.Errorf("Key: %+v, %v", k, is)
	}
	for _, i := range []int{math.MinInt, -1, 0, 1, 3, math.MaxInt} {
		if k, is := kern.Key(m, in, c, i); is || !same(k, api.Key{}) {
			t.Errorf("Key of %d: %+v", i, k)
		}
	}
	for _, raw := range []string{`{"a":{}}`, `{}`, `1`} { // In has an error: of Parameters, of InputPath
		c.Frames[2].Raw = val(raw)
		if k, is := kern.Key(m, in, c, 2); is || !same(k, api.Key{}) {
			t.Errorf("Key where In has an error: %+v", k)
		}
		wantTurns(t, m, c, 0, 1, 2) // it is asked all the same
		taken(t, m, in, c, toldEvent(fine("1"), 1, 1, 1))
	}
	for phase := api.Ready; phase <= api.Failed; phase++ {
		c := config(phased(at("T"), phase))
		if k, is := kern.Key(machine(task("T", "")), in, c, 0); is != (phase == api.Asked) || !is && !same(k, api.Key{}) {
			t.Errorf("Key in the phase %d: %+v, %v", phase, k, is)
		}
	}
}
