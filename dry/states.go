package dry

import (
	"voyage/api"
	"voyage/dec"
	"voyage/path"
	"voyage/pipe"
	"voyage/rule"
	"voyage/stamp"
)

// The kinds of a Wait, by what tells when it ends.
const (
	bySeconds = iota + 1
	bySecondsPath
	byTimestamp
	byTimestampPath
)

// do does the state of a frame that is Ready, once.
func (f *frame) do() {
	if f.state.Type == api.Fail {
		f.count(moved)
		f.fail(f.state.Error, f.state.Cause)
		return
	}
	in, name := pipe.In(*f.state, f.raw, f.context())
	if name != noName {
		f.count(moved)
		f.trouble(name, noCause)
		return
	}
	switch f.state.Type {
	case api.Task:
		f.task()
	case api.Wait:
		f.wait(in)
	default:
		f.count(moved)
		f.move(in)
	}
}

// move does a state that is done, or fans out, in one step.
func (f *frame) move(in api.Value) {
	switch f.state.Type {
	case api.Pass:
		f.pass(in)
	case api.Succeed:
		f.finish(in)
	case api.Choice:
		f.choose(in)
	case api.Parallel:
		f.branch(in)
	case api.Map:
		f.iterate(in)
	}
}

func (f *frame) pass(in api.Value) {
	if f.state.HasFixed {
		in = f.state.Fixed
	}
	f.finish(in)
}

// task asks for what comes of an attempt, which hangs on no input.
func (f *frame) task() {
	f.count(askedAndTold)
	o := f.outcome(f.state.Resource, f.attempt)
	if o.Fine {
		f.finish(o.Value)
		return
	}
	f.trouble(o.Error, o.Cause)
}

func (f *frame) wait(in api.Value) {
	if !f.hasMoment(in) {
		f.count(moved)
		f.trouble(runtimeName, noCause)
		return
	}
	f.count(setAndFired)
	f.finish(in)
}

// hasMoment tells whether a Wait ends at all; when it does is nothing here.
func (f *frame) hasMoment(in api.Value) bool {
	switch f.state.WaitKind {
	case bySeconds, byTimestamp:
		return true
	case bySecondsPath:
		found, _ := path.Get(f.state.AtPath, in, f.context())
		return isDelay(found)
	case byTimestampPath:
		found, _ := path.Get(f.state.AtPath, in, f.context())
		return isMoment(found)
	}
	return false
}

func isDelay(v api.Value) bool {
	ticks, isWhole := dec.Int(v.Num)
	return v.Kind == api.Number && isWhole && ticks >= 0 && ticks <= api.MaxDelay
}

func isMoment(v api.Value) bool {
	_, err := stamp.Parse(v.Text)
	return v.Kind == api.Text && err == nil
}

func (f *frame) choose(in api.Value) {
	ctx := f.context()
	next, name := f.chosen(in, ctx)
	if name != noName {
		f.trouble(name, noCause)
		return
	}
	out, name := pipe.Out(*f.state, f.raw, in, ctx)
	if name != noName {
		f.trouble(name, noCause)
		return
	}
	f.enter(next, out)
}

// chosen gives the name of the state to which a Choice leads, or an error's.
func (f *frame) chosen(in, ctx api.Value) (next, name string) {
	next, name = f.ruled(in, ctx)
	if name == noName && next == "" { // whether a rule gave it or Default did: no state is meant by it
		return "", noChoiceName
	}
	return next, name
}

// ruled gives the Next of the first rule that holds, or Default, or an error's name.
func (f *frame) ruled(in, ctx api.Value) (next, name string) {
	for _, r := range f.state.Rules {
		holds, err := rule.Eval(r, in, ctx)
		switch {
		case err != nil:
			return "", runtimeName
		case holds:
			return r.Next, noName
		}
	}
	return f.state.Default, noName
}
