package kern_test

import (
	"fmt"
	"math"
	"slices"
	"testing"

	"voyage/api"
	"voyage/kern"
)

// nested is a machine in which all phases can be: a Parallel of a Map, a Wait and a Task.
func nested() api.Machine {
	wait := api.State{Name: "W", Type: api.Wait, WaitKind: 1}
	item := machine(task("T", ""), wait)
	return machine(parallel("P", "", machine(mapped("M", "", 0, item)), machine(wait), machine(task("T", ""))), pass("A", ""))
}

// nestedConfig is a configuration of nested that fits.
func nestedConfig() api.Config {
	return config(
		phased(at("P"), api.Fanned),
		phased(at("M", 1, 1, 0), api.Fanned),
		phased(at("T", 1, 1, 0, 1, 1, 0), api.Asked),
		at("W", 1, 1, 0, 1, 1, 1),
		phased(at("T", 1, 1, 0, 1, 1, 2), api.Done),
		phased(at("W", 1, 1, 1), api.Waiting),
		phased(at("T", 1, 1, 2), api.Delayed))
}

// everyEvent is one of each kind, of each place that a configuration has, and of some that it hasn't.
func everyEvent(c api.Config) []api.Event {
	places := [][]int{nil, {1, 1, 0}, {1}, {0, 0, 0}}
	for _, f := range c.Frames {
		places = append(places, f.Place)
	}
	var events []api.Event
	for _, place := range places {
		for kind := -1; kind <= 9; kind++ {
			events = append(events, api.Event{Kind: kind, Place: place, Outcome: fine("1"), Time: 1 << 49})
		}
	}
	return events
}

// wantNothing holds P15.2: no turn, no key, no event.
func wantNothing(t *testing.T, what string, m api.Machine, c api.Config) {
	t.Helper()
	in := val("[1]")
	for _, now := range []int64{0, 5, api.MaxTime, math.MinInt64, math.MaxInt64} {
		if turns := kern.Turns(m, c, now); len(turns) != 0 {
			t.Errorf("%s: turns %v of %s", what, turns, shown(c))
		}
		for i := -1; i <= len(c.Frames); i++ {
			if k, is := kern.Key(m, in, c, i); is || !same(k, api.Key{}) {
				t.Errorf("%s: a key, %+v, of %d of %s", what, k, i, shown(c))
			}
			if e, err := kern.Next(m, in, c, i, now, fine("1")); err != api.ErrEvent || !same(e, api.Event{}) {
				t.Errorf("%s: an event, %+v, %v, of %d of %s", what, e, err, i, shown(c))
			}
		}
	}
	for _, e := range everyEvent(c) {
		if d, err := kern.Apply(m, in, c, e); err != api.ErrEvent || !same(d, api.Config{}) {
			t.Errorf("%s: Apply of %+v: %v, %s; of %s", what, e, err, shown(d), shown(c))
		}
	}
}

// wantFit wants that a configuration has turns at the last tick, each of which can be taken.
func wantFit(t *testing.T, what string, m api.Machine, c api.Config) {
	t.Helper()
	turns := kern.Turns(m, c, api.MaxTime)
	if len(turns) == 0 {
		t.Errorf("%s: no turns of %s", what, shown(c))
	}
	for _, i := range turns {
		goes(t, m, val("[1]"), c, i, api.MaxTime, fine("1"))
	}
}

// changed is nestedConfig with a frame changed.
func changed(i int, change func(f *api.Frame)) api.Config {
	c := nestedConfig()
	change(&c.Frames[i])
	return c
}

// TestFitsPlaces holds P15.2: which frames there are, and in which order.
func TestFitsPlaces(t *testing.T) {
	m := nested()
	wantFit(t, "as it is", m, nestedConfig())
	wantTurns(t, m, nestedConfig(), 0, 2, 3, 5, 6)
	wantNothing(t, "no frame", m, api.Config{Fuel: 4})
	wantNothing(t, "no frame, no fuel", m, api.Config{})
	frames := nestedConfig().Frames
	order := func(places ...int) api.Config {
		var c []api.Frame
		for _, i := range places {
			c = append(c, frames[i])
		}
		return config(c...)
	}
	for _, fit := range [][]int{{0}, {0, 1}, {0, 1, 2}, {0, 1, 2, 3}, {0, 1, 2, 3, 4}, {0, 1, 5}, {0, 1, 5, 6}, {0, 1, 2, 5, 6}} { // a fan-out may have fewer parts
		wantFit(t, fmt.Sprint(fit), m, order(fit...))
	}
	for _, none := range [][]int{
		{1}, {2}, {5}, {1, 0}, {0, 0}, {0, 2}, {0, 5}, {0, 6}, {0, 1, 1}, {0, 1, 3}, {0, 1, 4}, {0, 1, 6}, {0, 5, 1}, {0, 1, 6, 5}, {0, 1, 5, 5}, {0, 1, 2, 2}, {0, 1, 2, 4}, {0, 1, 3, 2},
		{0, 1, 5, 2}, {0, 1, 5, 6, 2}, {0, 1, 2, 5, 3}, {0, 2, 1}, {0, 1, 2, 3, 4, 6, 5}, {0, 1, 2, 3, 4, 5, 6, 0}, {0, 1, 2, 3, 4, 5, 6, 6}, {0, 2, 3, 4, 1, 5, 6},
	} {
		wantNothing(t, fmt.Sprint(none), m, order(none...))
	}
	for i, place := range [][]int{{0}, {1, 1, 0}, {0, 0, 0}} {
		wantNothing(t, fmt.Sprint("the first one's place ", i), m, config(at("A", place...)))
	}
	for _, place := range [][]int{nil, {1}, {1, 1}, {1, 1, 1}, {1, 1, 3}, {1, 1, -1}, {2, 1, 0}, {1, 2, 0}, {0, 1, 0}, {1, 1, 0, 0}, {1, 1, 0, 1, 1, 0}, {0, 1, 1}, {1, 0, 1}} {
		wantNothing(t, fmt.Sprint("a first part's place ", place), m, config(phased(at("P"), api.Fanned), at("T", place...)))
	}
	for _, place := range [][]int{{1, 1, 0}, {1, 1, 0, 1, 1}, {1, 1, 0, 1, 1, 1}, {1, 1, 1, 1, 1, 0}, {1, 1, 0, 2, 1, 0}, {1, 1, 0, 1, 2, 0}, {1, 2, 0, 1, 1, 0}, {2, 1, 0, 1, 1, 0}, {1, 1, 0, 1, 1, 0, 1, 1, 0}} {
		wantNothing(t, fmt.Sprint("a part's part's place ", place), m, config(phased(at("P"), api.Fanned), phased(at("M", 1, 1, 0), api.Fanned), at("T", place...)))
	}
	whole := phased(at("P"), api.Fanned)
	whole.Visit, whole.Attempt = 7, 9
	wantFit(t, "later visits", m, config(whole, at("M", 7, 9, 0)))
	for _, place := range [][]int{{1, 1, 0}, {9, 7, 0}, {7, 1, 0}, {1, 9, 0}} {
		wantNothing(t, fmt.Sprint("a part of another visit ", place), m, config(whole, at("M", place...)))
	}
}

// TestFitsParts holds P15.2: frames with parts are Fanned; parts have machines, frames have states.
func TestFitsParts(t *testing.T) {
	m := nested()
	for phase := -1; phase <= 8; phase++ {
		if phase != api.Fanned {
			for _, i := range []int{0, 1} {
				wantNothing(t, "parts of a frame that isn't Fanned", m, changed(i, func(f *api.Frame) { f.Phase = phase }))
			}
		}
	}
	for i := range nestedConfig().Frames {
		for _, name := range []string{"", "gone", "A "} {
			wantNothing(t, "no such state", m, changed(i, func(f *api.Frame) { f.At = name }))
		}
	}
	wantNothing(t, "a state of the part, not of the whole", m, config(at("M")))
	wantNothing(t, "a state of the whole, not of the part", m, config(phased(at("P"), api.Fanned), at("A", 1, 1, 0)))
	for kind := -1; kind <= 10; kind++ {
		s := api.State{Name: "A", Type: kind}
		for _, m := range []api.Machine{machine(s), machine(pass("B", ""), s, pass("A", ""))} {
			if kind >= 1 && kind <= 8 {
				wantFit(t, "a type", m, config(at("A")))
			} else {
				wantNothing(t, "no type", m, config(at("A")))
			}
		}
	}
	lacks := nested()
	lacks.States[0].Parts = lacks.States[0].Parts[:2]
	wantNothing(t, "a part without a machine", lacks, nestedConfig())
	lacks.States[0].Parts = nil
	wantNothing(t, "parts without machines", lacks, nestedConfig())
	wantFit(t, "no parts", lacks, config(phased(at("P"), api.Fanned)))
	lacks = nested()
	lacks.States[0].Parts[0].States[0].Parts = nil
	wantNothing(t, "a Map's part without a machine", lacks, nestedConfig())
	wantNothing(t, "a part of a Map's that has Parts for it alone", machine(api.State{Name: "M", Type: api.Map, Parts: []api.Machine{machine(pass("A", "")), machine(pass("B", ""))}}), config(phased(at("M"), api.Fanned), at("A", 1, 1, 0), at("B", 1, 1, 1)))
	many := config(phased(at("M"), api.Fanned))
	for i := range api.MaxParts + 5 {
		many.Frames = append(many.Frames, at("A", 1, 1, i))
	}
	if turns := kern.Turns(machine(mapped("M", "", 0, machine(pass("A", "")))), many, 0); len(turns) != api.MaxParts+5 {
		t.Errorf("more parts than MaxParts: %d turns", len(turns))
	}
}

// TestFitsNumbers holds P15.2: Fuel, Left, Visit and Attempt at their bounds and beyond them.
func TestFitsNumbers(t *testing.T) {
	m := nested()
	for _, x := range []struct {
		n   int
		fit bool
	}{{math.MinInt, false}, {-1, false}, {0, true}, {1, true}, {65535, true}, {65536, true}, {65537, false}, {math.MaxInt, false}} {
		check := wantNothing
		if x.fit {
			check = wantFit
		}
		c := nestedConfig()
		c.Fuel = x.n
		check(t, fmt.Sprint("Fuel ", x.n), m, c)
		for i := range c.Frames {
			check(t, fmt.Sprint("Left ", x.n), m, changed(i, func(f *api.Frame) { f.Left = x.n }))
		}
	}
	const most = 1 << 40
	for _, x := range []struct {
		n              int
		visit, attempt bool
	}{{math.MinInt, false, false}, {-1, false, false}, {0, true, false}, {1, true, true}, {most - 1, true, true}, {most, true, true}, {most + 1, false, false}, {math.MaxInt, false, false}} {
		check := func(fit bool, what string, c api.Config) {
			t.Helper()
			if fit {
				wantFit(t, what, m, c)
			} else {
				wantNothing(t, what, m, c)
			}
		}
		for _, i := range []int{2, 3, 4, 5, 6} { // those that have no parts
			check(x.visit, fmt.Sprint("Visit ", x.n), changed(i, func(f *api.Frame) { f.Visit = x.n }))
			check(x.attempt, fmt.Sprint("Attempt ", x.n), changed(i, func(f *api.Frame) { f.Attempt = x.n }))
		}
		visits, attempts := phased(at("P"), api.Fanned), phased(at("P"), api.Fanned)
		visits.Visit, attempts.Attempt = x.n, x.n
		check(x.visit, fmt.Sprint("Visit of a fan-out ", x.n), config(visits, at("M", x.n, 1, 0)))
		check(x.attempt, fmt.Sprint("Attempt of a fan-out ", x.n), config(attempts, at("M", 1, x.n, 0)))
	}
}

// TestFitsPhases holds P15.2: each phase with each type, of the whole one and of a part.
func TestFitsPhases(t *testing.T) {
	fit := map[int]string{api.Ready: "PTCWSFLM", api.Done: "PTCWSFLM", api.Asked: "T", api.Delayed: "TLM", api.Waiting: "W", api.Fanned: "LM"}
	letters := " PTCWSFLM"
	for kind := 1; kind <= 8; kind++ {
		m := machine(api.State{Name: "A", Type: kind})
		around := machine(parallel("P", "", m, machine(pass("B", ""))))
		for phase := -2; phase <= 9; phase++ {
			for _, back := range []bool{false, true} {
				f := phased(at("A"), phase)
				f.Back = back
				may := fit[phase]
				if phase == api.Waiting && back {
					may = "TLM"
				}
				is := may != "" && slices.Contains([]byte(may), letters[kind])
				what := fmt.Sprintf("the phase %d (%v) of the type %d", phase, back, kind)
				if is && phase != api.Done {
					wantFit(t, what, m, config(f))
				} else {
					wantNothing(t, what, m, config(f))
				}
				f.Place = []int{1, 1, 0}
				within := config(phased(at("P"), api.Fanned), f, at("B", 1, 1, 1))
				if is {
					wantFit(t, "of a part, "+what, around, within)
				} else {
					wantNothing(t, "of a part, "+what, around, within)
				}
			}
		}
	}
}

// TestEnded holds P15.2: behind the end there is nothing.
func TestEnded(t *testing.T) {
	m := machine(task("T", ""), pass("A", ""))
	for _, phase := range []int{api.Done, api.Failed} {
		for _, name := range []string{"T", "A"} {
			wantNothing(t, "ended", m, config(phased(at(name), phase)))
		}
	}
	wantNothing(t, "ended as it began", m, kern.Begin(m, val("1"), 0))
	wantNothing(t, "ended as it began, in no state", api.Machine{Start: "x"}, kern.Begin(api.Machine{Start: "x"}, val("1"), 5))
	wantNothing(t, "Failed at once, but for its state", machine(pass("", "")), kern.Begin(machine(pass("", "")), val("1"), 0))
}
