package kern

import (
	"voyage/api"
	"voyage/path"
	"voyage/pipe"
	"voyage/retry"
)

// The names of errors that are made here; none of them has a cause.
const (
	noName         = ""
	noCause        = ""
	fuelName       = "States.OutOfFuel"
	runtimeName    = "States.Runtime"
	noChoiceName   = "States.NoChoiceMatched"
	parametersName = "States.ParameterPathFailure"
	resultPathName = "States.ResultPathMatchFailure"
	limitName      = "States.DataLimitExceeded"
)

// enter is ENTER; false, if the frame fails by it.
func (f *frame) enter(name string, v api.Value) bool {
	if f.Left < 1 {
		f.fail(fuelName, noCause)
		return false
	}
	f.Left--
	state := stateOf(f.machine, name)
	if state == nil {
		f.fail(runtimeName, noCause)
		return false
	}
	f.state = state
	f.At, f.Raw, f.Phase = name, v, api.Ready
	f.Visit, f.Attempt = f.Visit+1, 1
	f.Charged = make([]int, len(state.Retry))
	return true
}

// finish is FINISH.
func (f *frame) finish(result api.Value) {
	out, name := pipe.Out(*f.state, f.Raw, result, f.context())
	switch {
	case name != noName:
		f.trouble(name, noCause)
	case f.state.Type == api.Succeed || f.state.Next == "":
		f.Phase, f.Result = api.Done, out
	default:
		f.enter(f.state.Next, out)
	}
}

// trouble is TROUBLE.
func (f *frame) trouble(name, cause string) {
	if !f.isTried() {
		f.fail(name, cause)
		return
	}
	if place, delay, ok := retry.Retry(f.state.Retry, f.Charged, name); ok {
		f.Charged = retry.Charge(f.Charged, place)
		f.Phase, f.Delay = api.Delayed, delay
		return
	}
	if place, ok := retry.Catch(f.state.Catch, name); ok {
		f.catch(&f.state.Catch[place], name, cause)
		return
	}
	f.fail(name, cause)
}

// catch goes on where a catcher says.
func (f *frame) catch(c *api.Catcher, name, cause string) {
	v, ok := f.Raw, true
	if !c.Result.Nothing {
		v, ok = path.Put(c.Result, f.Raw, objectOf(api.Field{Name: "Error", Value: textOf(name)}, api.Field{Name: "Cause", Value: textOf(cause)}))
	}
	if !ok {
		f.fail(resultPathName, noCause)
		return
	}
	f.enter(c.Next, v)
}

// fail is FAILS.
func (f *frame) fail(name, cause string) {
	if f.fan == nil {
		f.Phase, f.Error, f.Cause = api.Failed, name, cause
		return
	}
	f.fan.parts = nil
	f.fan.trouble(name, cause)
}
