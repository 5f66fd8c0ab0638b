package dry_test

import (
	"fmt"
	"reflect"
	"strings"
	"testing"

	"voyage/api"
	"voyage/dry"
	"voyage/json"
	"voyage/path"
)

// Names of errors.
const (
	all        = "States.ALL"
	outOfFuel  = "States.OutOfFuel"
	runtime    = "States.Runtime"
	noChoice   = "States.NoChoiceMatched"
	parameters = "States.ParameterPathFailure"
	resultPath = "States.ResultPathMatchFailure"
	limit      = "States.DataLimitExceeded"
	taskFailed = "States.TaskFailed"
)

// val is the value of a text.
func val(s string) api.Value {
	v, err := json.Parse(s)
	if err != nil {
		panic(s + ": " + err.Error())
	}
	return v
}

func text(s string) api.Value { return api.Value{Kind: api.Text, Text: s} }

// way is the path of a text; `null` is the null path.
func way(s string) api.Path {
	if s == "null" {
		return api.Path{Set: true, Nothing: true}
	}
	p, err := path.Parse(s)
	if err != nil {
		panic(s + ": " + err.Error())
	}
	return p
}

func fine(s string) api.Outcome { return api.Outcome{Fine: true, Value: val(s)} }

func wrong(name, cause string) api.Outcome { return api.Outcome{Error: name, Cause: cause} }

// machine starts at the first of its states.
func machine(states ...api.State) api.Machine {
	return api.Machine{Start: states[0].Name, States: states}
}

func pass(name, next string) api.State { return api.State{Name: name, Type: api.Pass, Next: next} }

// gives is a Pass that gives a value.
func gives(name, v, next string) api.State {
	return api.State{Name: name, Type: api.Pass, HasFixed: true, Fixed: val(v), Next: next}
}

// task has the resource r and its name.
func task(name, next string) api.State {
	return api.State{Name: name, Type: api.Task, Resource: "r" + name, Next: next}
}

func fails(name, wrong string) api.State {
	return api.State{Name: name, Type: api.Fail, Error: wrong, Cause: "of " + wrong}
}

// failing is a machine that FAILS by an error in one step.
func failing(wrong string) api.Machine { return machine(fails("F", wrong)) }

// passing is a machine that is Done in one step.
func passing() api.Machine { return machine(pass("A", "")) }

func parallel(name, next string, parts ...api.Machine) api.State {
	return api.State{Name: name, Type: api.Parallel, Next: next, Parts: parts}
}

func mapped(name, next string, most int, part api.Machine) api.State {
	return api.State{Name: name, Type: api.Map, Next: next, Most: most, Parts: []api.Machine{part}}
}

// failsAt is a machine that FAILS, in two steps, where its input is one of these numbers; else it is Done in as many.
func failsAt(numbers ...int) api.Machine {
	choice := api.State{Name: "C", Type: api.Choice, Default: "S"}
	states := []api.State{choice, {Name: "S", Type: api.Succeed}}
	for _, n := range numbers {
		name := fmt.Sprint("e", n)
		states[0].Rules = append(states[0].Rules, api.Rule{Op: 15, Var: way("$"), With: val(fmt.Sprint(n)), Next: name})
		states = append(states, fails(name, name))
	}
	return machine(states...)
}

func retries(most int, names ...string) api.Retrier {
	return api.Retrier{Errors: names, Interval: 2, Most: most, Rate: api.Dec{Digits: "2"}}
}

func catches(next, result string, names ...string) api.Catcher {
	return api.Catcher{Errors: names, Next: next, Result: way(result)}
}

// answer tells what comes of an attempt of a resource; attempt 0: of each.
func answer(resource string, attempt int, o api.Outcome) api.Answer {
	return api.Answer{Resource: resource, Attempt: attempt, Outcome: o}
}

// winner tells which part of a place wins.
func winner(part int, place ...int) api.Winner { return api.Winner{Place: place, Part: part} }

// given is what Run is handed.
type given struct {
	m    api.Machine
	in   api.Value
	l    []api.Answer
	w    []api.Winner
	fuel int
}

// of is a run of a machine with fuel enough.
func of(m api.Machine, in string) given { return given{m: m, in: val(in), fuel: 50} }

func (g given) answers(l ...api.Answer) given {
	g.l = l
	return g
}

func (g given) winners(w ...api.Winner) given {
	g.w = w
	return g
}

func (g given) fuelled(fuel int) given {
	g.fuel = fuel
	return g
}

func (g given) run() (api.Report, []api.Contest) { return dry.Run(g.m, g.in, g.l, g.w, g.fuel) }

// done is the report of a fine end.
func done(output string, steps int) api.Report {
	return api.Report{Fine: true, Output: val(output), Steps: steps}
}

// ended is the report of an end by an error without a cause.
func ended(name string, steps int) api.Report { return api.Report{Error: name, Steps: steps} }

// fell is the report of an end by an error of a Fail of fails.
func fell(name string, steps int) api.Report {
	return api.Report{Error: name, Cause: "of " + name, Steps: steps}
}

// contest is one of a place: which part won, and which can.
func contest(place []int, won int, parts ...int) api.Contest {
	return api.Contest{Place: place, Parts: parts, Won: won}
}

func at(place ...int) []int { return place }

// same holds two things against each other field by field; a nil list and an empty one are the same.
func same(a, b any) bool { return sameThing(reflect.ValueOf(a), reflect.ValueOf(b)) }

func sameThing(a, b reflect.Value) bool {
	switch a.Kind() {
	case reflect.Slice:
		if a.Len() != b.Len() {
			return false
		}
		for i := range a.Len() {
			if !sameThing(a.Index(i), b.Index(i)) {
				return false
			}
		}
		return true
	case reflect.Struct:
		for i := range a.NumField() {
			if !sameThing(a.Field(i), b.Field(i)) {
				return false
			}
		}
		return true
	}
	return a.Equal(b)
}

// shown tells what a run comes to.
func shown(r api.Report, c []api.Contest) string {
	var out strings.Builder
	fmt.Fprintf(&out, "fine %v %.300s error %.100q %.100q steps %d", r.Fine, json.Print(r.Output), r.Error, r.Cause, r.Steps)
	for i, x := range c {
		if i == 30 {
			fmt.Fprintf(&out, "; and so on, %d in all", len(c))
			break
		}
		fmt.Fprintf(&out, "; %v: %v, won %d", x.Place, x.Parts, x.Won)
	}
	return out.String()
}

// wants holds a run against what it must come to, all fields of it.
func wants(t *testing.T, what string, g given, report api.Report, contests ...api.Contest) {
	t.Helper()
	r, c := g.run()
	if !same(r, report) || !same(c, contests) {
		t.Errorf("%s: %s\nwant %s", what, shown(r, c), shown(report, contests))
	}
}
