package kern

import (
	"voyage/api"
	"voyage/path"
	"voyage/pipe"
	"voyage/rule"
)

// move does a state that is done in one step, and tells what is wrong with any that can't be.
func (f *frame) move(api.Event) {
	if f.state.Type == api.Fail {
		f.fail(f.state.Error, f.state.Cause)
		return
	}
	in, name := f.in()
	if name != noName {
		f.trouble(name, noCause)
		return
	}
	switch f.state.Type {
	case api.Pass:
		f.pass(in)
	case api.Succeed:
		f.finish(in)
	case api.Choice:
		f.choose(in)
	case api.Parallel:
		f.branch(in)
	case api.Map:
		f.iterate(in)
	default: // a Wait that has no moment
		f.trouble(runtimeName, noCause)
	}
}

func (f *frame) pass(in api.Value) {
	if f.state.HasFixed {
		f.finish(f.state.Fixed)
		return
	}
	f.finish(in)
}

func (f *frame) choose(in api.Value) {
	ctx := f.context()
	next, name := f.chosen(in, ctx)
	if name != noName {
		f.trouble(name, noCause)
		return
	}
	out, name := pipe.Out(*f.state, f.Raw, in, ctx)
	if name != noName {
		f.trouble(name, noCause)
		return
	}
	f.enter(next, out)
}

// chosen gives the name of the state that a Choice comes to, or an error's. A rule that holds decides, though its Next be empty: Default isn't asked any more.
func (f *frame) chosen(in, ctx api.Value) (next, name string) {
	next = f.state.Default
	for _, r := range f.state.Rules {
		holds, err := rule.Eval(r, in, ctx)
		if err != nil {
			return "", runtimeName
		}
		if holds {
			next = r.Next
			break
		}
	}
	if next == "" {
		return "", noChoiceName
	}
	return next, noName
}

// branch fans a Parallel out. A part that fails has the frame's trouble told already.
func (f *frame) branch(in api.Value) {
	if len(f.state.Parts) > api.MaxParts {
		f.trouble(runtimeName, noCause)
		return
	}
	for range f.state.Parts {
		part := f.newPart()
		if !part.enter(part.machine.Start, in) {
			return
		}
	}
	f.Phase = api.Fanned
}

// iterate fans a Map out.
func (f *frame) iterate(in api.Value) {
	items, _ := path.Get(f.state.Items, in, f.context())
	if items.Kind != api.List || len(items.List) > api.MaxParts || len(f.state.Parts) == 0 {
		f.trouble(runtimeName, noCause)
		return
	}
	for i, item := range items.List {
		part := f.newPart()
		part.Item, part.Index = item, i
		v, name := f.partInput(part, in)
		if name != noName {
			f.parts = nil
			f.trouble(name, noCause)
			return
		}
		if !part.enter(part.machine.Start, v) {
			return
		}
	}
	f.Phase = api.Fanned
}

// newPart gives a frame one part more.
func (f *frame) newPart() *frame {
	number := len(f.parts)
	part := f.run.newFrame(f.partMachine(number), f.partPlace(number))
	part.fan = f
	f.parts = append(f.parts, part)
	return part
}

// partInput gives what a Map's part begins with, or an error's name.
func (f *frame) partInput(part *frame, in api.Value) (api.Value, string) {
	if !f.state.HasParameters {
		return part.Item, noName
	}
	filled, err := pipe.Fill(f.state.Parameters, in, f.contextWithin(part))
	switch err {
	case nil:
		return filled, noName
	case api.ErrLong:
		return api.Value{}, limitName
	}
	return api.Value{}, parametersName
}

func (f *frame) ask(api.Event) { f.Phase = api.Asked }

func (f *frame) hear(e api.Event) {
	if e.Outcome.Fine {
		f.finish(e.Outcome.Value)
		return
	}
	f.trouble(e.Outcome.Error, e.Outcome.Cause)
}

func (f *frame) set(e api.Event) {
	f.Back = f.Phase == api.Delayed
	f.Phase, f.Due = api.Waiting, e.Time
}

func (f *frame) fire(api.Event) {
	if f.Back {
		f.Attempt++
		f.Phase = api.Ready
		return
	}
	in, name := f.in()
	if name != noName {
		f.trouble(name, noCause)
		return
	}
	f.finish(in)
}

func (f *frame) join(api.Event) {
	var results []api.Value
	for _, part := range f.parts {
		results = append(results, part.Result)
	}
	f.parts = nil
	f.finish(api.Value{Kind: api.List, List: results})
}
