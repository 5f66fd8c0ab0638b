package kern_test

import (
	"fmt"
	"reflect"
	"slices"
	"strings"
	"testing"

	"voyage/api"
	"voyage/json"
	"voyage/kern"
	"voyage/path"
)

// Names of errors.
const (
	all        = "States.ALL"
	outOfFuel  = "States.OutOfFuel"
	runtime    = "States.Runtime"
	noChoice   = "States.NoChoiceMatched"
	parameters = "States.ParameterPathFailure"
	resultPath = "States.ResultPathMatchFailure"
	limit      = "States.DataLimitExceeded"
)

// noOutcome is for frames that don't ask for one.
var noOutcome = api.Outcome{}

// val is the value of a text.
func val(s string) api.Value {
	v, err := json.Parse(s)
	if err != nil {
		panic(s + ": " + err.Error())
	}
	return v
}

func text(s string) api.Value { return api.Value{Kind: api.Text, Text: s} }

// way is the path of a text; `null` is the null path.
func way(s string) api.Path {
	if s == "null" {
		return api.Path{Set: true, Nothing: true}
	}
	p, err := path.Parse(s)
	if err != nil {
		panic(s + ": " + err.Error())
	}
	return p
}

func fine(s string) api.Outcome { return api.Outcome{Fine: true, Value: val(s)} }

func wrong(name, cause string) api.Outcome { return api.Outcome{Error: name, Cause: cause} }

// machine starts at the first of its states.
func machine(states ...api.State) api.Machine {
	return api.Machine{Start: states[0].Name, States: states}
}

func pass(name, next string) api.State { return api.State{Name: name, Type: api.Pass, Next: next} }

func task(name, next string) api.State {
	return api.State{Name: name, Type: api.Task, Resource: "r" + name, Next: next}
}

func fails(name, wrong, cause string) api.State {
	return api.State{Name: name, Type: api.Fail, Error: wrong, Cause: cause}
}

func parallel(name, next string, parts ...api.Machine) api.State {
	return api.State{Name: name, Type: api.Parallel, Next: next, Parts: parts}
}

func mapped(name, next string, most int, part api.Machine) api.State {
	return api.State{Name: name, Type: api.Map, Next: next, Most: most, Parts: []api.Machine{part}}
}

// retries is a retrier of these names, which waits 2 ticks, then 4, and so on.
func retries(most int, names ...string) api.Retrier {
	return api.Retrier{Errors: names, Interval: 2, Most: most, Rate: api.Dec{Digits: "2"}}
}

func catches(next, result string, names ...string) api.Catcher {
	return api.Catcher{Errors: names, Next: next, Result: way(result)}
}

// at is a frame by hand, Ready in its first visit.
func at(name string, place ...int) api.Frame {
	return api.Frame{Place: place, At: name, Visit: 1, Attempt: 1, Left: 3, Index: -1}
}

// phased is the frame in another phase.
func phased(f api.Frame, phase int) api.Frame {
	f.Phase = phase
	return f
}

func config(frames ...api.Frame) api.Config { return api.Config{Fuel: 4, Frames: frames} }

// same holds two things against each other field by field; a nil list and an empty one are the same.
func same(a, b any) bool { return sameThing(reflect.ValueOf(a), reflect.ValueOf(b)) }

func sameThing(a, b reflect.Value) bool {
	switch a.Kind() {
	case reflect.Slice:
		if a.Len() != b.Len() {
			return false
		}
		for i := range a.Len() {
			if !sameThing(a.Index(i), b.Index(i)) {
				return false
			}
		}
		return true
	case reflect.Struct:
		for i := range a.NumField() {
			if !sameThing(a.Field(i), b.Field(i)) {
				return false
			}
		}
		return true
	}
	return a.Equal(b)
}

// shown tells a configuration, a frame a line.
func shown(c api.Config) string {
	var out strings.Builder
	fmt.Fprintf(&out, "fuel %d", c.Fuel)
	for _, f := range c.Frames {
		phase := fmt.Sprint(f.Phase)
		if f.Phase >= 0 && f.Phase <= api.Failed {
			phase = []string{"Ready", "Asked", "Delayed", "Waiting", "Fanned", "Done", "Failed"}[f.Phase]
		}
		fmt.Fprintf(&out, "\n  %v at %q visit %d attempt %d left %d %s raw %.200s charged %v delay %d due %d back %v item %d %.200s result %.200s error %q %q", f.Place, f.At, f.Visit, f.Attempt, f.Left, phase, json.Print(f.Raw), f.Charged, f.Delay, f.Due, f.Back, f.Index, json.Print(f.Item), json.Print(f.Result), f.Error, f.Cause)
	}
	return out.String()
}

// wantConfig holds a configuration against what it must be, all fields of it.
func wantConfig(t *testing.T, what string, got, want api.Config) {
	t.Helper()
	if !same(got, want) {
		t.Fatalf("%s: %s\nwant %s", what, shown(got), shown(want))
	}
}

func wantTurns(t *testing.T, m api.Machine, c api.Config, now int64, want ...int) {
	t.Helper()
	if got := kern.Turns(m, c, now); !slices.Equal(got, want) {
		t.Fatalf("turns at %d: %v, want %v, of %s", now, got, want, shown(c))
	}
}

// goes takes the turn of a frame: its event, and what runs behind it.
func goes(t *testing.T, m api.Machine, in api.Value, c api.Config, i int, now int64, o api.Outcome) (api.Event, api.Config) {
	t.Helper()
	e, err := kern.Next(m, in, c, i, now, o)
	if err != nil {
		t.Fatalf("Next of %d at %d: %v, turns %v, of %s", i, now, err, kern.Turns(m, c, now), shown(c))
	}
	d, err := kern.Apply(m, in, c, e)
	if err != nil {
		t.Fatalf("Apply of %+v: %v, of %s", e, err, shown(c))
	}
	return e, d
}

// moves is goes where the event must be this one.
func moves(t *testing.T, m api.Machine, in api.Value, c api.Config, i int, now int64, o api.Outcome, want api.Event) api.Config {
	t.Helper()
	e, d := goes(t, m, in, c, i, now, o)
	if !same(e, want) {
		t.Fatalf("the event of %d at %d: %+v, want %+v, of %s", i, now, e, want, shown(c))
	}
	return d
}

// event is one of a kind, of a place.
func event(kind int, place ...int) api.Event { return api.Event{Kind: kind, Place: place} }

// timed is one with a time.
func timed(kind int, time int64, place ...int) api.Event {
	return api.Event{Kind: kind, Time: time, Place: place}
}

// toldEvent is one with an outcome.
func toldEvent(o api.Outcome, place ...int) api.Event {
	return api.Event{Kind: api.EvTold, Outcome: o, Place: place}
}

// refused wants that an event can't be.
func refused(t *testing.T, m api.Machine, in api.Value, c api.Config, e api.Event) {
	t.Helper()
	if d, err := kern.Apply(m, in, c, e); err != api.ErrEvent || !same(d, api.Config{}) {
		t.Fatalf("Apply of %+v: %v, %s; of %s", e, err, shown(d), shown(c))
	}
}

// taken wants that an event can be, and gives what runs behind it.
func taken(t *testing.T, m api.Machine, in api.Value, c api.Config, e api.Event) api.Config {
	t.Helper()
	d, err := kern.Apply(m, in, c, e)
	if err != nil {
		t.Fatalf("Apply of %+v: %v; of %s", e, err, shown(c))
	}
	return d
}

// ends runs a machine from its beginning on, by the first turn each time; time goes on where there is none. It gives the last configuration.
func ends(t *testing.T, m api.Machine, in api.Value, fuel int, answer func(api.Key) api.Outcome) api.Config {
	t.Helper()
	return endsFrom(t, m, in, kern.Begin(m, in, fuel), answer)
}

func endsFrom(t *testing.T, m api.Machine, in api.Value, c api.Config, answer func(api.Key) api.Outcome) api.Config {
	t.Helper()
	now := int64(0)
	for range 10000 {
		if p := c.Frames[0].Phase; p == api.Done || p == api.Failed {
			return c
		}
		turns := kern.Turns(m, c, now)
		if len(turns) == 0 {
			now = nextDue(c)
			continue
		}
		o := noOutcome
		if k, is := kern.Key(m, in, c, turns[0]); is {
			o = answer(k)
		}
		_, c = goes(t, m, in, c, turns[0], now, o)
	}
	t.Fatalf("no end: %s", shown(c))
	return c
}

// nextDue is the least deadline.
func nextDue(c api.Config) int64 {
	least := int64(-1)
	for _, f := range c.Frames {
		if f.Phase == api.Waiting && (least < 0 || f.Due < least) {
			least = f.Due
		}
	}
	return least
}

// echo answers a task with what it was asked.
func echo(k api.Key) api.Outcome { return api.Outcome{Fine: true, Value: k.Input} }

// wantDone wants a run that has ended well.
func wantDone(t *testing.T, what string, c api.Config, result string) {
	t.Helper()
	if f := c.Frames[0]; len(c.Frames) != 1 || f.Phase != api.Done || !same(f.Result, val(result)) || f.Error != "" || f.Cause != "" {
		t.Errorf("%s: %s\nwant the result %s", what, shown(c), result)
	}
}

// wantFailed wants a run that has ended with an error, at this state.
func wantFailed(t *testing.T, what string, c api.Config, at, name, cause string) {
	t.Helper()
	if f := c.Frames[0]; len(c.Frames) != 1 || f.Phase != api.Failed || f.At != at || f.Error != name || f.Cause != cause || !same(f.Result, api.Value{}) {
		t.Errorf("%s: %s\nwant the error %q %q, at %q", what, shown(c), name, cause, at)
	}
}
