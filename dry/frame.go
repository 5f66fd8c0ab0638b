package dry

import (
	"voyage/api"
	"voyage/path"
	"voyage/pipe"
	"voyage/retry"
)

// The names of errors that are made here; none of them has a cause.
const (
	noName         = ""
	noCause        = ""
	fuelName       = "States.OutOfFuel"
	runtimeName    = "States.Runtime"
	noChoiceName   = "States.NoChoiceMatched"
	parametersName = "States.ParameterPathFailure"
	resultPathName = "States.ResultPathMatchFailure"
	limitName      = "States.DataLimitExceeded"
	taskFailedName = "States.TaskFailed"
)

// frame is a machine that runs: the whole one, or a part of a fan-out.
type frame struct {
	*run
	machine        *api.Machine
	state          *api.State
	left           int
	visit, attempt int
	raw            api.Value
	charged        []int
	item           *item // of the nearest part of a Map, itself or one around it; nil: there is none
	phase          int   // Ready, Done or Failed: what has no time knows no other
	result         api.Value
	name, cause    string // of the error by which it FAILS
}

// toEnd runs a frame that has entered its first state.
func (f *frame) toEnd() {
	for f.phase == api.Ready {
		f.do()
	}
}

// report tells what the whole came to.
func (f *frame) report() api.Report {
	if f.phase == api.Done {
		return api.Report{Fine: true, Output: f.result, Steps: int(f.steps)}
	}
	return api.Report{Error: f.name, Cause: f.cause, Steps: int(f.steps)}
}

// enter is ENTER.
func (f *frame) enter(name string, v api.Value) {
	if f.left < 1 {
		f.fail(fuelName, noCause)
		return
	}
	f.left--
	state := stateOf(f.machine, name)
	if state == nil {
		f.fail(runtimeName, noCause)
		return
	}
	f.state, f.raw = state, v
	f.visit, f.attempt = f.visit+1, 1
	f.charged = make([]int, len(state.Retry))
}

// stateOf gives the first state of this name; nil, if there is none, or it has no type.
func stateOf(m *api.Machine, name string) *api.State {
	for i := range m.States {
		s := &m.States[i]
		if s.Name != name {
			continue
		}
		if s.Type < api.Pass || s.Type > api.Map {
			return nil
		}
		return s
	}
	return nil
}

// finish is FINISH.
func (f *frame) finish(result api.Value) {
	out, name := pipe.Out(*f.state, f.raw, result, f.context())
	switch {
	case name != noName:
		f.trouble(name, noCause)
	case f.state.Type == api.Succeed || f.state.Next == "":
		f.phase, f.result = api.Done, out
	default:
		f.enter(f.state.Next, out)
	}
}

// trouble is TROUBLE. How long a retry waits is nothing here.
func (f *frame) trouble(name, cause string) {
	if !f.isTried() {
		f.fail(name, cause)
		return
	}
	if place, _, ok := retry.Retry(f.state.Retry, f.charged, name); ok {
		f.charged = retry.Charge(f.charged, place)
		f.attempt++
		f.count(setAndFired)
		return
	}
	if place, ok := retry.Catch(f.state.Catch, name); ok {
		f.catch(&f.state.Catch[place], name, cause)
		return
	}
	f.fail(name, cause)
}

// isTried tells whether a frame's state is of a type that has retriers and catchers.
func (f *frame) isTried() bool {
	return f.state.Type == api.Task || f.state.Type == api.Parallel || f.state.Type == api.Map
}

// catch goes on where a catcher says.
func (f *frame) catch(c *api.Catcher, name, cause string) {
	if c.Result.Nothing {
		f.enter(c.Next, f.raw)
		return
	}
	what := objectOf(api.Field{Name: "Error", Value: textOf(name)}, api.Field{Name: "Cause", Value: textOf(cause)})
	v, ok := path.Put(c.Result, f.raw, what)
	if !ok {
		f.fail(resultPathName, noCause)
		return
	}
	f.enter(c.Next, v)
}

// fail is FAILS; what comes of that for a fan-out is asked when all its parts have ended.
func (f *frame) fail(name, cause string) {
	f.phase, f.name, f.cause = api.Failed, name, cause
}
