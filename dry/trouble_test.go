package dry_test

import (
	"fmt"
	"strings"
	"testing"

	"voyage/api"
)

// tellsEach is answers of a task's attempts, one behind the other: errors by these names.
func tellsEach(resource string, names ...string) []api.Answer {
	var l []api.Answer
	for i, name := range names {
		l = append(l, answer(resource, i+1, wrong(name, "c")))
	}
	return append(l, answer(resource, 0, fine(`"fine"`)))
}

// TestRetriers holds which retrier takes an error, and when it is used up: each retry is two steps, and an attempt more.
func TestRetriers(t *testing.T) {
	s := task("T", "")
	s.Retry = []api.Retrier{retries(2, "a"), retries(1, "b", "c"), retries(1, all)}
	fell := func(name string, steps int) api.Report { return api.Report{Error: name, Cause: "c", Steps: steps} }
	for _, x := range []struct {
		names string
		want  api.Report
	}{
		{"", done(`"fine"`, 2)}, {"a", done(`"fine"`, 6)}, {"a a", done(`"fine"`, 10)}, {"a a a", fell("a", 10)},
		{"b", done(`"fine"`, 6)}, {"b b", fell("b", 6)}, {"b c", fell("c", 6)}, {"c b", fell("b", 6)}, {"d", done(`"fine"`, 6)}, {"d e", fell("e", 6)},
		{"a b a d", done(`"fine"`, 18)}, {"a b a d a", fell("a", 18)}, {"d c a a b", fell("b", 18)}, {"a b d a d", fell("d", 18)}, {"b a b", fell("b", 10)},
		{outOfFuel, fell(outOfFuel, 2)}, {"a " + outOfFuel, fell(outOfFuel, 6)},
	} {
		wants(t, x.names, of(machine(s), "1").answers(tellsEach("rT", strings.Fields(x.names)...)...), x.want)
	}
	for _, most := range []int{-1, 0} {
		s.Retry = []api.Retrier{retries(most, "a"), retries(9, all)}
		wants(t, "one that takes none is ahead of one that would", of(machine(s), "1").answers(tellsEach("rT", "a")...), fell("a", 2))
	}
	s.Retry = []api.Retrier{retries(5000, all)}
	wants(t, "often", of(machine(s), "1"), ended(taskFailed, 5000*4+2))
}

// TestChargedAnew holds that how often retriers were charged counts for a visit, and the number of the attempt, too.
func TestChargedAnew(t *testing.T) {
	s := task("T", "N")
	s.Retry, s.Catch = []api.Retrier{retries(2, all)}, []api.Catcher{catches("N", "$.t", all)}
	next := api.State{Name: "N", Type: api.Choice, Rules: []api.Rule{{Op: 38, Var: way("$.u"), With: val("true"), Next: "E"}}, Default: "U"}
	put := gives("U", "1", "T")
	put.Result = way("$.u")
	m := machine(s, next, put, api.State{Name: "E", Type: api.Succeed})
	wants(t, "two visits", of(m, `{}`), done(`{"t":{"Error":"States.TaskFailed","Cause":""},"u":1}`, 10+1+1+10+1+1))
}

// TestTriedAgain holds that an attempt more begins anew: its input is what the first one had, the context tells of the attempt.
func TestTriedAgain(t *testing.T) {
	s := task("T", "")
	s.Retry = []api.Retrier{retries(9, all)}
	s.HasSelector, s.Selector = true, val(`{"n.$":"$$.State.RetryCount","s.$":"$$.State.Name","r.$":"$"}`)
	s.Result = way("$.r")
	wants(t, "a Task", of(machine(s), `{"i":1}`).answers(tellsEach("rT", "a", "b", "c")...), done(`{"i":1,"r":{"n":3,"s":"T","r":"fine"}}`, 14))
	s.Selector = val(`{"n.$":"$.gone"}`)
	wants(t, "what can't be filled is tried again", of(machine(s), `{}`).answers(answer("rT", 0, fine("1"))), ended(parameters, 9*4+2))
	s.HasSelector, s.Result = false, way("$.i.r")
	wants(t, "what can't be put, too", of(machine(s), `{"i":1}`).answers(answer("rT", 0, fine("1"))), ended(resultPath, 9*4+2))
	s.Result, s.Output = api.Path{}, way("$.q")
	wants(t, "what can't be picked, too", of(machine(s), `{}`).answers(answer("rT", 0, fine("1"))), ended(runtime, 9*4+2))
	s.Output, s.Next = api.Path{}, "gone"
	wants(t, "that its Next is none is no trouble of it", of(machine(s), `{}`).answers(answer("rT", 0, fine("1"))), ended(runtime, 2))
	s.Next, s.HasParameters, s.Parameters = "", true, val(`{"l.$":"States.ArrayPartition($, $$.State.RetryCount)"}`)
	wants(t, "an input that comes with the second attempt", of(machine(s), `[]`).answers(tellsEach("rT", "a", "b")...), done(`"fine"`, 3+4+2))
	fan := mapped("M", "", 0, passing())
	fan.Retry, fan.HasParameters, fan.Parameters = []api.Retrier{retries(9, parameters)}, true, val(`{"n.$":"States.ArrayPartition($$.Map.Item.Value, $$.State.RetryCount)"}`)
	wants(t, "a Map, too", of(machine(fan), `[["a"],["b","c"]]`), done(`[{"n":[["a"]]},{"n":[["b"],["c"]]}]`, 3+4))
	choice := api.State{Name: "C", Type: api.Choice, Rules: []api.Rule{is("$", "2", "S")}, Default: "F"}
	part := machine(choice, api.State{Name: "S", Type: api.Succeed}, fails("F", "e"))
	again := parallel("P", "", part)
	again.Retry, again.HasParameters, again.Parameters = []api.Retrier{retries(9, "e")}, true, val(`{"n.$":"$$.State.RetryCount"}`)
	again.Parts[0].States[0].Rules[0].Var = way("$.n")
	wants(t, "a Parallel", of(machine(again), `1`), done(`[{"n":2}]`, 5+5+4), contest(at(1, 1), 0, 0), contest(at(1, 2), 0, 0))
}

// TestCatchers holds which catcher takes an error, what is put where, and where that leads.
func TestCatchers(t *testing.T) {
	what := `{"Error":"e","Cause":"why"}`
	tellE := []api.Answer{answer("rT", 0, wrong("e", "why"))}
	for _, x := range []struct {
		catch []api.Catcher
		want  api.Report
	}{
		{[]api.Catcher{catches("B", "$", "e")}, done(what, 3)},
		{[]api.Catcher{{Errors: []string{"e"}, Next: "B"}}, done(what, 3)}, // no path is told
		{[]api.Catcher{catches("B", "null", "e")}, done(`{"x":[1]}`, 3)},
		{[]api.Catcher{{Errors: []string{"e"}, Next: "B", Result: api.Path{Nothing: true, Steps: way("$.q").Steps}}}, done(`{"x":[1]}`, 3)},
		{[]api.Catcher{catches("B", "$.w", "e")}, done(`{"x":[1],"w":`+what+`}`, 3)},
		{[]api.Catcher{catches("B", "$.v.w", "e")}, done(`{"x":[1],"v":{"w":`+what+`}}`, 3)},
		{[]api.Catcher{catches("B", "$.x[0]", "e")}, done(`{"x":[`+what+`]}`, 3)},
		{[]api.Catcher{catches("B", "$.x[1]", "e")}, ended(resultPath, 2)}, {[]api.Catcher{catches("B", "$.x.y", "e")}, ended(resultPath, 2)}, {[]api.Catcher{catches("B", "$.x[-1]", "e")}, ended(resultPath, 2)}, {[]api.Catcher{catches("B", "$$.x", "e")}, ended(resultPath, 2)},
		{[]api.Catcher{catches("B", "$[0]", "e"), catches("B", "$", all)}, ended(resultPath, 2)}, // it isn't trouble again
		{[]api.Catcher{catches("B", "$", "f"), catches("D", "$", all)}, done(`"D"`, 3)},
		{[]api.Catcher{catches("D", "$", "f", "e"), catches("B", "$", all)}, done(`"D"`, 3)},
		{[]api.Catcher{catches("gone", "$", "e"), catches("B", "$", all)}, ended(runtime, 2)}, {[]api.Catcher{catches("N", "$", "e")}, ended(runtime, 2)}, {[]api.Catcher{catches("", "$", "e")}, ended(runtime, 2)},
		{[]api.Catcher{catches("B", "$", "f")}, api.Report{Error: "e", Cause: "why", Steps: 2}}, {nil, api.Report{Error: "e", Cause: "why", Steps: 2}},
	} {
		s := task("T", "")
		s.Catch = x.catch
		m := machine(s, pass("B", ""), gives("D", `"D"`, ""), api.State{Name: "N"})
		wants(t, fmt.Sprint(x.catch), of(m, `{"x":[1]}`).answers(tellE...), x.want)
		m.States[0].Retry = []api.Retrier{retries(1, "e")} // a retrier goes ahead of it
		x.want.Steps += 4
		wants(t, fmt.Sprint(x.catch, ", retried"), of(m, `{"x":[1]}`).answers(tellE...), x.want)
	}
	s := task("T", "")
	s.Catch = []api.Catcher{catches("T", "$.w", "e")}
	wants(t, "caught to itself", of(machine(s), `{}`).answers(tellE...).fuelled(7), ended(outOfFuel, 14))
	wants(t, "nothing speaks of it", of(takenCare(task("T", "")), `{}`).answers(answer("rT", 0, wrong(outOfFuel, "why"))), api.Report{Error: outOfFuel, Cause: "why", Steps: 2})
}

// TestCatchOfTexts holds that an error's name goes as it stands, but counts in a value as json has it, and that what is put need not be sound.
func TestCatchOfTexts(t *testing.T) {
	s := parallel("P", "", machine(api.State{Name: "F", Type: api.Fail, Error: "e\xff", Cause: "\xfec"}))
	s.Catch = []api.Catcher{catches("B", "$.w", "e\xff")}
	m := machine(s, pass("B", ""))
	wants(t, "caught", of(m, "{}"), done(`{"w":{"Error":"e\ufffd","Cause":"\ufffdc"}}`, 3), contest(at(1, 1), 0, 0))
	m.States[0].Catch[0].Errors = []string{"e\ufffd"}
	wants(t, "not caught", of(m, "{}"), api.Report{Error: "e\xff", Cause: "\xfec", Steps: 2}, contest(at(1, 1), 0, 0))
	ask := task("T", "")
	ask.Catch = []api.Catcher{catches("B", "$.w", all)}
	pick := pass("B", "")
	g := given{m: machine(ask, pick), in: api.Value{Kind: api.Object, Fields: []api.Field{{Name: "l", Value: text(strings.Repeat("x", api.MaxText-10))}}}, fuel: 5}
	wants(t, "the next state finds it too long", g, ended(limit, 3))
	g.m.States[1].Input = way("$.w")
	wants(t, "or picks of it", g, done(`{"Error":"States.TaskFailed","Cause":""}`, 3))
}

// TestErrorsGoUp holds that an error of a part goes up through fan-outs till one retries or catches it.
func TestErrorsGoUp(t *testing.T) {
	deep := func() api.Machine {
		inner := machine(parallel("I", "", failing("e"), passing()))
		return machine(parallel("O", "", passing(), machine(mapped("M", "", 0, inner))), gives("B", `"B"`, ""))
	}
	inner := func(m api.Machine) *api.State { return &m.States[0].Parts[1].States[0].Parts[0].States[0] }
	middle := func(m api.Machine) *api.State { return &m.States[0].Parts[1].States[0] }
	outer := func(m api.Machine) *api.State { return &m.States[0] }
	i, o, u := contest(at(1, 1, 1, 1, 1, 0, 1, 1), 0, 0), contest(at(1, 1, 1, 1, 1), 0, 0), contest(at(1, 1), 1, 1)
	wants(t, "nothing takes it", of(deep(), "[7]"), fell("e", 6), i, o, u)
	for _, x := range []struct {
		level    func(m api.Machine) *api.State
		report   api.Report
		contests []api.Contest
	}{
		{inner, done(`[[7],["C"]]`, 9), []api.Contest{i}}, {middle, done(`[[7],"C"]`, 8), []api.Contest{i, o}}, {outer, done(`"C"`, 7), []api.Contest{i, o, u}},
	} {
		m := deep()
		x.level(m).Catch = []api.Catcher{catches("gone", "$", "x"), catches("C", "null", "e")}
		for _, level := range []*api.Machine{&m, &m.States[0].Parts[1], &m.States[0].Parts[1].States[0].Parts[0]} {
			level.States = append(level.States, gives("C", `"C"`, ""))
		}
		wants(t, "caught", of(m, "[7]"), x.report, x.contests...)
	}
	m := deep()
	inner(m).Retry = []api.Retrier{retries(1, "e")}
	j := contest(at(1, 1, 1, 1, 1, 0, 1, 2), 0, 0)
	wants(t, "retried within", of(m, "[7]"), fell("e", 11), i, j, o, u)
	m = deep()
	outer(m).Retry = []api.Retrier{retries(1, "e")}
	second := []api.Contest{contest(at(1, 2, 1, 1, 1, 0, 1, 1), 0, 0), contest(at(1, 2, 1, 1, 1), 0, 0), contest(at(1, 2), 1, 1)}
	wants(t, "retried without", of(m, "[7]"), fell("e", 14), i, o, u, second[0], second[1], second[2])
	m = deep() // a retrier that is used up lets it by; a catcher may make another error of it, without a cause
	inner(m).Retry = []api.Retrier{retries(0, "e"), retries(9, all)}
	middle(m).Catch = []api.Catcher{catches("gone", "null", "e")}
	outer(m).Catch = []api.Catcher{catches("gone", "$", "e"), catches("B", "$", runtime)}
	wants(t, "up and up", of(m, "[7]"), done(`"B"`, 7), i, o, u)
}
