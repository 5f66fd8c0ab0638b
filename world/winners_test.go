package world_test

import (
	"fmt"
	"math/rand"
	"slices"
	"strings"
	"testing"

	"voyage/api"
	"voyage/dry"
	"voyage/json"
	"voyage/kern"
)

// meaning is what dry.Run says with some winners.
type meaning struct {
	winners  []api.Winner
	report   api.Report
	contests []api.Contest
}

// meanings are all that dry.Run says, by whatever winners its contests allow.
func meanings(b beginnings, f folded) []meaning {
	var all []meaning
	var decide func(w []api.Winner)
	decide = func(w []api.Winner) {
		report, contests := dry.Run(f.machine, f.input, b.answers, w, b.fuel)
		for _, c := range contests {
			isTold := func(x api.Winner) bool { return slices.Equal(x.Place, c.Place) }
			if slices.ContainsFunc(w, isTold) {
				continue
			}
			for _, part := range c.Parts {
				decide(append(slices.Clone(w), api.Winner{Place: c.Place, Part: part}))
			}
			return
		}
		all = append(all, meaning{w, report, contests})
	}
	decide(nil)
	return all
}

// configText tells configurations apart, but for their times.
func configText(c api.Config) string {
	var out strings.Builder
	for _, f := range c.Frames {
		fmt.Fprint(&out, f.Place, f.At, f.Visit, f.Attempt, f.Left, f.Phase, f.Charged, f.Back, json.Print(f.Raw), json.Print(f.Result), f.Error, f.Cause, ";")
	}
	return out.String()
}

// seeker looks for turns by which a run comes to what was meant.
type seeker struct {
	t    *testing.T
	b    beginnings
	run  folded
	want meaning
	been map[string]int
}

// path gives the places of the frames that are to make a step, one behind the other; none of their events makes another part win than was meant. At the end of time no deadline is in the way.
func (s *seeker) path(c api.Config) ([][]int, bool) {
	text := configText(c)
	if s.been[text]++; s.been[text] > 1 {
		return nil, false
	}
	if root := c.Frames[0]; root.Phase == api.Done || root.Phase == api.Failed {
		is := same(cameTo(endOf(c, s.want.report.Steps)), cameTo(s.want.report))
		return nil, is
	}
	for _, i := range kern.Turns(s.run.machine, c, api.MaxTime) {
		d := s.step(c, i)
		place := c.Frames[i].Place
		if slices.ContainsFunc(came(place, d), func(w api.Winner) bool { return !isWon(s.want.contests, w) }) {
			continue
		}
		if rest, is := s.path(d); is {
			return append([][]int{place}, rest...), true
		}
	}
	return nil, false
}

// step is what runs behind the turn of frame i.
func (s *seeker) step(c api.Config, i int) api.Config {
	s.t.Helper()
	m := model{answers: s.b.answers}
	var o api.Outcome
	if k, is := kern.Key(s.run.machine, s.run.input, c, i); is {
		o = m.outcome(k)
	}
	x, err := kern.Next(s.run.machine, s.run.input, c, i, api.MaxTime, o)
	if err == nil {
		c, err = kern.Apply(s.run.machine, s.run.input, c, x)
	}
	if err != nil {
		s.t.Fatal(err)
	}
	return c
}

// endOf is the report of a run that has ended.
func endOf(c api.Config, steps int) api.Report {
	f := c.Frames[0]
	return api.Report{Fine: f.Phase == api.Done, Output: f.Result, Error: f.Error, Cause: f.Cause, Steps: steps}
}

// bringAbout plays a world, by acts 2 and 3 alone, in which just these frames make their steps, in this order.
func bringAbout(o *watch, path [][]int) {
	o.t.Helper()
	o.do(o.b.start())
	for _, place := range path {
		f := frameAt(o.w.Config(), place)
		if f.Phase == api.Waiting && f.Due > o.w.Now() {
			o.do(ticks(f.Due - o.w.Now()))
		}
		c := o.w.Config()
		turns := kern.Turns(o.run.machine, c, o.w.Now())
		pick := slices.IndexFunc(turns, func(i int) bool { return slices.Equal(c.Frames[i].Place, place) })
		if pick < 0 {
			o.fatal("%v has no turn at %d", place, o.w.Now())
		}
		if p := o.do(steps(int64(pick))); p.Err != nil || !slices.Equal(p.Event.Place, place) {
			o.fatal("the step of %v: %s", place, shownReply(p))
		}
	}
}

// holdMeanings holds P18.9 of a run: whatever winners are allowed, a world comes to the end that is meant by them. It tells how many ends there are, and how many choices.
func holdMeanings(t *testing.T, b beginnings, seen map[string]int) (unlike, choices int) {
	t.Helper()
	run := fold([]api.Event{begun(b.machine, b.input, b.fuel)})
	if !run.ok {
		t.Fatalf("no machine: %s", b.machine)
	}
	reports := map[string]int{}
	all := meanings(b, run)
	for _, want := range all {
		s := &seeker{t: t, b: b, run: run, want: want, been: map[string]int{}}
		path, is := s.path(run.config)
		if !is {
			t.Fatalf("%s of %s: no turns come to %s, with the winners %v; contests %v", b.machine, b.input, shownReport(want.report), want.winners, want.contests)
		}
		o := observe(t, b, seen)
		bringAbout(o, path)
		p := o.do(ends())
		report := want.report
		report.Steps = 0
		if !same(p, cameTo(report)) {
			o.fatal("the end: %s, not %s, with the winners %v", shownReply(p), shownReport(report), want.winners)
		}
		for _, w := range winnersOf(o.w.History()) {
			if !isWon(want.contests, w) {
				o.fatal("the winner %v isn't one of %v", w, want.contests)
			}
		}
		reports[shownReport(report)]++
	}
	return len(reports), len(all)
}

// Machines of few states, by their texts.

// alone is a machine of one state, and of those behind it.
func alone(state string, more ...string) string {
	return `{"StartAt":"x","States":{"x":{` + state + `}` + strings.Join(more, "") + `}}`
}

func failing(name string) string { return alone(`"Type":"Fail","Error":"` + name + `","Cause":"c"`) }

// late FAILS behind a step.
func late(name string) string {
	return alone(`"Type":"Pass","Next":"y"`, `,"y":{"Type":"Fail","Error":"`+name+`"}`)
}

func passing() string { return alone(`"Type":"Pass","End":true`) }

// task asks, and asks again.
func task(resource string) string {
	return alone(`"Type":"Task","Resource":"` + resource + `","Retry":[{"ErrorEquals":["States.ALL"],"IntervalSeconds":2,"MaxAttempts":1}],"End":true`)
}

// parallel is a state.
func parallel(more string, parts ...string) string {
	return `"Type":"Parallel","Branches":[` + strings.Join(parts, ",") + `],` + more
}

func mapped(more string, part string) string {
	return `"Type":"Map","Iterator":` + part + `,` + more
}

// failsOf is a machine that FAILS of some items, each by its own name.
func failsOf(items ...int) string {
	var rules, states []string
	for _, n := range items {
		rules = append(rules, fmt.Sprintf(`{"Variable":"$","NumericEquals":%d,"Next":"e%d"}`, n, n))
		states = append(states, fmt.Sprintf(`,"e%d":{"Type":"Fail","Error":"e%d"}`, n, n))
	}
	return alone(`"Type":"Choice","Choices":[`+strings.Join(rules, ",")+`],"Default":"z"`, strings.Join(states, ""), `,"z":{"Type":"Succeed"}`)
}

// caught sends some errors on to an end that tells another value.
func caught(names string) string {
	return `"Catch":[{"ErrorEquals":[` + names + `],"Next":"z"}],`
}

const lastly = `,"z":{"Type":"Pass","Result":"z","End":true}`

// TestEveryWinner holds P18.9 of machines of which it is known how many ends they have.
func TestEveryWinner(t *testing.T) {
	seen := map[string]int{}
	inner := alone(parallel(caught(`"x"`)+`"End":true`, late("x"), late("y")), lastly)
	for i, x := range []struct {
		machine, input string
		fuel           int
		answers        []api.Answer
		ends, choices  int
	}{
		{passing(), "1", 5, nil, 1, 1},
		{failing("e"), "1", 5, nil, 1, 1},
		{alone(parallel(`"End":true`, passing(), passing())), "1", 5, nil, 1, 1},
		{alone(parallel(`"End":true`, failing("e"), passing())), "1", 5, nil, 1, 1},
		{alone(parallel(`"End":true`, late("e"), failing("f"), failing("g"), passing())), "1", 5, nil, 3, 3},
		{alone(parallel(caught(`"f"`)+`"Next":"z"`, late("e"), failing("f"), failing("g")), lastly), "1", 5, nil, 3, 3},
		{alone(parallel(`"Retry":[{"ErrorEquals":["e"],"MaxAttempts":1},{"ErrorEquals":["f"],"MaxAttempts":1}],`+caught(`"f"`)+`"Next":"z"`, late("e"), late("f"), passing()), lastly), "1", 5, nil, 2, 6},
		{alone(mapped(`"MaxConcurrency":2,`+caught(`"e2"`)+`"Next":"z"`, failsOf(0, 2, 3, 4)), lastly), "[0,1,2,3,4]", 5, nil, 2, 2},
		{alone(mapped(`"MaxConcurrency":1,"End":true`, failsOf(2, 3))), "[1,2,3]", 5, nil, 1, 1},
		{alone(mapped(`"End":true`, failsOf(1, 2, 3))), "[1,2,3]", 5, nil, 3, 3},
		{alone(parallel(`"End":true`, inner, failing("w"))), "1", 5, nil, 2, 3},
		{alone(parallel(`"End":true`, task("r"), task("s"), failing("w"))), "1", 5, []api.Answer{answer("r", 2, wrong("e", "c")), answer("s", 1, wrong("f", ""))}, 3, 3},
		{alone(parallel(`"End":true`, task("r"), failing("w"))), "1", 5, []api.Answer{answer("r", 2, fine("1"))}, 1, 1},
		{alone(mapped(`"MaxConcurrency":1,"End":true`, inner)), "[1,2]", 5, nil, 2, 4},
		{alone(parallel(`"End":true`, alone(parallel(`"End":true`, late("e"), failing("f"))), alone(parallel(`"End":true`, late("g"), failing("h"))))), "1", 5, nil, 4, 8},
		{alone(parallel(`"End":true`, alone(`"Type":"Choice","Choices":[{"Variable":"$","IsNull":true,"Next":"z"}],"Default":"x"`, lastly), failing("e"))), "1", 3, nil, 2, 2},
		{alone(parallel(`"End":true`, alone(`"Type":"Wait","Seconds":9,"Next":"y"`, `,"y":{"Type":"Fail","Error":"e"}`), alone(`"Type":"Wait","Seconds":2,"Next":"y"`, `,"y":{"Type":"Fail","Error":"f"}`))), "1", 5, nil, 2, 2},
	} {
		ends, choices := holdMeanings(t, beginnings{x.answers, x.machine, x.input, x.fuel}, seen)
		if ends != x.ends || choices != x.choices {
			t.Errorf("%d: %d ends by %d choices, not %d by %d", i, ends, choices, x.ends, x.choices)
		}
	}
}

// TestEveryWinnerOfSmallMachines holds P18.9 of random machines of few states.
func TestEveryWinnerOfSmallMachines(t *testing.T) {
	r := rand.New(rand.NewSource(22))
	seen := map[string]int{}
	several, many := 0, 0
	for range 250 {
		b := beginnings{randomAnswers(r), smallMachine(r), "[0,1]", 4}
		ends, choices := holdMeanings(t, b, seen)
		if ends > 1 {
			several++
		}
		if choices > 3 {
			many++
		}
	}
	if several < 30 || many < 20 || seen["retries"] < 20 {
		t.Errorf("too few with several ends: %d; by more than three choices: %d; %v", several, many, seen)
	}
}

// smallMachine is a fan-out of few steps, that is retried or caught here and there.
func smallMachine(r *rand.Rand) string {
	more := oneOf(r, "", "", `"Retry":[{"ErrorEquals":["States.ALL"],"MaxAttempts":1}],`, `"Retry":[{"ErrorEquals":["e"],"MaxAttempts":1}],`) + oneOf(r, "", caught(`"e"`), caught(`"f","e1"`), caught(`"States.ALL"`))
	if maybe(r, 3) {
		return alone(mapped(more+fmt.Sprintf(`"MaxConcurrency":%d,"Next":"z"`, r.Intn(3)), smallPart(r)), lastly)
	}
	return alone(parallel(more+`"Next":"z"`, smallPart(r), smallPart(r)), lastly)
}

// smallPart is a machine of few steps.
func smallPart(r *rand.Rand) string {
	one := func() string {
		return oneOf(r, failing("e"), failing("f"), late("e"), passing(), task("r"), task("s"), failsOf(1), failsOf(0, 1))
	}
	if maybe(r, 3) {
		return alone(parallel(oneOf(r, "", caught(`"e"`))+`"Next":"z"`, one(), one()), lastly)
	}
	return one()
}
