package dry_test

import (
	"fmt"
	"math/rand"
	"slices"
	"strings"
	"testing"

	"voyage/api"
	"voyage/json"
	"voyage/kern"
)

// told is what comes of an attempt, by the answers; kern takes it as it is to be taken.
func told(l []api.Answer, k api.Key) api.Outcome {
	for _, a := range l {
		if a.Resource == k.Resource && (a.Attempt == k.Attempt || a.Attempt == 0) {
			return a.Outcome
		}
	}
	return wrong(taskFailed, "")
}

// step takes the turn of a frame.
func step(t *testing.T, g given, c api.Config, i int, now int64) (api.Event, api.Config) {
	t.Helper()
	var o api.Outcome
	if k, is := kern.Key(g.m, g.in, c, i); is {
		o = told(g.l, k)
	}
	e, err := kern.Next(g.m, g.in, c, i, now, o)
	if err != nil {
		t.Fatalf("Next of %d: %v", i, err)
	}
	d, err := kern.Apply(g.m, g.in, c, e)
	if err != nil {
		t.Fatalf("Apply of %+v: %v", e, err)
	}
	return e, d
}

// fannedAt gives the frame of this place, if it is Fanned.
func fannedAt(c api.Config, place []int) (api.Frame, bool) {
	for _, f := range c.Frames {
		if slices.Equal(f.Place, place) {
			return f, f.Phase == api.Fanned
		}
	}
	return api.Frame{}, false
}

// came gives the winners that come to be by an event of a place: from within to without, as long as the fan-out of which it is a part isn't Fanned any more.
func came(place []int, behind api.Config) []api.Winner {
	var w []api.Winner
	for len(place) > 0 {
		n := len(place)
		f, is := fannedAt(behind, place[:n-3])
		if is && f.Visit == place[n-3] && f.Attempt == place[n-2] {
			break
		}
		w = append(w, api.Winner{Place: slices.Clone(place[:n-1]), Part: place[n-1]})
		place = place[:n-3]
	}
	return w
}

// nextDue is the least deadline.
func nextDue(c api.Config) int64 {
	least := int64(-1)
	for _, f := range c.Frames {
		if f.Phase == api.Waiting && (least < 0 || f.Due < least) {
			least = f.Due
		}
	}
	return least
}

// plays runs to the end, by the turns that pick picks, and tells what came: the report (Steps is how many events there were) and the winners.
func plays(t *testing.T, g given, pick func(c api.Config, turns []int) int) (api.Report, []api.Winner) {
	t.Helper()
	c, now, events := kern.Begin(g.m, g.in, g.fuel), int64(0), 0
	var w []api.Winner
	for c.Frames[0].Phase != api.Done && c.Frames[0].Phase != api.Failed {
		turns := kern.Turns(g.m, c, now)
		if len(turns) == 0 {
			now = nextDue(c)
			continue
		}
		e, d := step(t, g, c, pick(c, turns), now)
		w = append(w, came(e.Place, d)...)
		c = d
		events++
	}
	return endOf(c, events), w
}

// endOf is the report of a run that has ended.
func endOf(c api.Config, events int) api.Report {
	f := c.Frames[0]
	return api.Report{Fine: f.Phase == api.Done, Output: f.Result, Error: f.Error, Cause: f.Cause, Steps: events}
}

// policy is a way to take turns.
type policy struct {
	name string
	pick func(c api.Config, turns []int) int
}

// policies are some by which different parts fail first.
func policies(r *rand.Rand) []policy {
	weights := map[string]int{}
	return []policy{
		{"the first", func(_ api.Config, turns []int) int { return turns[0] }},
		{"the last", func(_ api.Config, turns []int) int { return turns[len(turns)-1] }},
		{"any", func(_ api.Config, turns []int) int { return oneOf(r, turns...) }},
		{"mostly the last", func(_ api.Config, turns []int) int { return turns[max(r.Intn(len(turns)), r.Intn(len(turns)))] }},
		{"the least deep", func(c api.Config, turns []int) int {
			return slices.MinFunc(turns, func(i, j int) int { return len(c.Frames[i].Place) - len(c.Frames[j].Place) })
		}},
		{"by favour", func(c api.Config, turns []int) int { // some places are always ahead of others
			favour := func(i int) int {
				place := fmt.Sprint(c.Frames[i].Place)
				if weights[place] == 0 {
					weights[place] = 1 + r.Intn(1000)
				}
				return weights[place]
			}
			return slices.MinFunc(turns, func(i, j int) int { return favour(i) - favour(j) })
		}},
	}
}

// TestTurns holds P16.5: whatever turns are taken, a run by kern ends as Run says with the winners that came to be, in no more events; in just as many, if there is no contest.
func TestTurns(t *testing.T) {
	r := rand.New(rand.NewSource(20))
	seen := map[string]int{}
	for range 700 {
		g := randomGiven(r)
		for _, p := range policies(r) {
			end, w := plays(t, g, p.pick)
			report, contests := g.winners(w...).run()
			steps := report.Steps
			report.Steps = end.Steps
			if !same(report, end) || steps < end.Steps || len(contests) == 0 && steps != end.Steps {
				t.Fatalf("%s: %+v: %s\nby turns, winners %v: %s", p.name, g, shown(report, contests), w, shown(end, nil))
			}
			for _, x := range w {
				if !slices.ContainsFunc(contests, func(c api.Contest) bool { return slices.Equal(c.Place, x.Place) && c.Won == x.Part }) {
					t.Fatalf("%s: %+v: no contest that %v won: %s", p.name, g, x, shown(report, contests))
				}
			}
			for sort, is := range map[string]bool{"no contest": len(contests) == 0, "contests": len(contests) > 0, "fewer events": end.Steps < steps, "not the least": slices.ContainsFunc(contests, func(c api.Contest) bool { return c.Won != c.Parts[0] }), "fine behind contests": end.Fine && len(contests) > 0} {
				if is {
					seen[sort]++
				}
			}
		}
	}
	for _, sort := range []string{"no contest", "contests", "fewer events", "not the least", "fine behind contests"} {
		if seen[sort] < 30 {
			t.Errorf("too few: %v", seen)
		}
	}
}

// allEnds gives all ends that a run by kern can come to, by whatever turns, told as texts.
func allEnds(t *testing.T, g given) map[string]int {
	t.Helper()
	ends, seen := map[string]int{}, map[string]int{}
	var visit func(c api.Config)
	visit = func(c api.Config) {
		key := configText(c)
		if seen[key]++; seen[key] > 1 {
			return
		}
		if phase := c.Frames[0].Phase; phase == api.Done || phase == api.Failed {
			ends[shown(endOf(c, 0), nil)]++
			return
		}
		for _, i := range kern.Turns(g.m, c, api.MaxTime) {
			_, d := step(t, g, c, i, api.MaxTime)
			visit(d)
		}
	}
	visit(kern.Begin(g.m, g.in, g.fuel))
	return ends
}

// configText tells configurations apart.
func configText(c api.Config) string {
	var out strings.Builder
	for _, f := range c.Frames {
		fmt.Fprint(&out, f.Place, f.At, f.Visit, f.Attempt, f.Left, f.Phase, f.Charged, f.Due, f.Delay, json.Print(f.Raw), json.Print(f.Result), f.Error, f.Cause, ";")
	}
	return out.String()
}

// allMeant gives all ends that Run tells, by whatever winners its contests allow.
func allMeant(g given) map[string]int {
	ends := map[string]int{}
	var decide func(w []api.Winner)
	decide = func(w []api.Winner) {
		report, contests := g.winners(w...).run()
		for _, c := range contests {
			isTold := func(x api.Winner) bool { return slices.Equal(x.Place, c.Place) }
			if slices.ContainsFunc(w, isTold) {
				continue
			}
			for _, part := range c.Parts {
				decide(append(slices.Clone(w), api.Winner{Place: c.Place, Part: part}))
			}
			return
		}
		report.Steps = 0
		ends[shown(report, nil)]++
	}
	decide(nil)
	return ends
}

// TestAllEnds holds P16.5, P16.2 by every choice of turns, and every choice of winners, of small machines: the ends are the same ones.
func TestAllEnds(t *testing.T) {
	bad := func(name string, steps int) api.Machine { // it FAILS behind some steps
		m := row(steps)
		m.States[steps-1].Next = name
		m.States = append(m.States, fails(name, name))
		return m
	}
	inner := parallel("I", "", bad("x", 1), bad("y", 1))
	inner.Catch = []api.Catcher{catches("Z", "$", "x")}
	retried := parallel("P", "", bad("e", 1), bad("f", 1), passing())
	retried.Retry = []api.Retrier{retries(1, "e"), retries(1, "f")}
	retried.Catch = []api.Catcher{catches("Z", "$.c", "f")}
	held := mapped("M", "", 2, failsAt(0, 2, 3, 4))
	held.Catch = []api.Catcher{catches("Z", "$", "e2")}
	ask := task("T", "")
	ask.Retry = []api.Retrier{retries(1, all)}
	nested := mapped("M", "", 1, machine(inner, gives("Z", `"z"`, "")))
	for i, x := range []struct {
		g    given
		many int
	}{
		{of(machine(parallel("P", "", bad("e", 2), bad("f", 1), failing("g"), passing())), "1"), 3},
		{of(machine(retried, pass("Z", "")), "{}"), 2},
		{of(machine(held, pass("Z", "")), "[0,1,2,3,4]"), 2},
		{of(machine(parallel("P", "", machine(inner, pass("Z", "")), failing("w"))), "1"), 2},
		{of(machine(parallel("P", "", machine(ask), machine(ask, pass("A", "")), failing("w"))), "1").answers(answer("rT", 2, wrong("e", "c"))), 2},
		{of(machine(nested), "[1,2]"), 2},
		{of(machine(parallel("P", "", machine(nested), machine(nested))), "[1]"), 2},
		{of(machine(parallel("P", "", circle(), failing("e"))), "1").fuelled(3), 2},
		{of(machine(parallel("P", "", passing(), machine(mapped("M", "", 0, passing())))), "[1,2]"), 1},
		{of(machine(parallel("P", "", api.Machine{Start: "gone"}, failing("e"))), "1"), 1},
	} {
		ends, meant := allEnds(t, x.g), allMeant(x.g)
		for end := range ends {
			if meant[end] == 0 {
				t.Errorf("%d: an end that Run doesn't tell: %s; it tells %v", i, end, meant)
			}
		}
		for end := range meant {
			if ends[end] == 0 {
				t.Errorf("%d: an end that isn't come to: %s; but %v", i, end, ends)
			}
		}
		if len(ends) != x.many {
			t.Errorf("%d: %d ends: %v", i, len(ends), ends)
		}
	}
}

// TestSmallMachines holds the same of random machines that have few turns.
func TestSmallMachines(t *testing.T) {
	r := rand.New(rand.NewSource(21))
	several := 0
	for range 100 {
		m := machine(parallel("P", "Z", randomPart(r), randomPart(r)), api.State{Name: "Z", Type: api.Succeed})
		if maybe(r, 3) {
			m.States[0] = mapped("P", "Z", r.Intn(3), randomPart(r))
		}
		m.States[0].Retry, m.States[0].Catch = randomRetry(r), []api.Catcher{catches("Z", "$", oneOf(r, "e", "f", all))}
		g := of(m, "[0,1]").answers(randomAnswers(r)...).fuelled(4)
		ends, meant := allEnds(t, g), allMeant(g)
		for end := range ends {
			if meant[end] == 0 {
				t.Fatalf("%+v: an end that Run doesn't tell: %s; it tells %v", g, end, meant)
			}
		}
		for end := range meant {
			if ends[end] == 0 {
				t.Fatalf("%+v: an end that isn't come to: %s; but %v", g, end, ends)
			}
		}
		if len(ends) > 1 {
			several++
		}
	}
	if several < 20 {
		t.Errorf("too few with several ends: %d", several)
	}
}

// randomPart is a machine of few steps.
func randomPart(r *rand.Rand) api.Machine {
	one := func() api.Machine {
		ask := task("T", "")
		ask.Resource = oneOf(r, "r", "s", "t")
		return oneOf(r, failing("e"), failing("f"), passing(), machine(ask), failsAt(1))
	}
	if maybe(r, 3) {
		return machine(parallel("Q", "", one(), one()))
	}
	return one()
}
