package kern

import (
	"slices"

	"voyage/api"
	"voyage/json"
)

const (
	noIndex  = -1      // of a frame that is no part of a Map
	maxCount = 1 << 40 // of visits and attempts
)

// run is what all frames of a configuration share.
type run struct {
	input api.Value // of the whole
	fuel  int
}

// frame is a frame that is worked on.
type frame struct {
	api.Frame
	run      *run
	machine  *api.Machine
	state    *api.State
	fan      *frame // whose part it is; nil: it is the whole one
	parts    []*frame
	underWay int  // how many of its parts aren't Done
	held     bool // back, by the Most of a Map that it is within
}

// newFrame gives a frame that has entered no state yet.
func (r *run) newFrame(m *api.Machine, place []int) *frame {
	return &frame{Frame: api.Frame{Place: place, Left: r.fuel, Index: noIndex}, run: r, machine: m}
}

// open gives the frames of a configuration, in its order, to work on; none, if it doesn't fit m. (One that has ended has a single frame, for only a Fanned one has parts, and no event.)
func open(m *api.Machine, input api.Value, c api.Config) []*frame {
	if !within(c.Fuel, 0, api.MaxFuel) {
		return nil
	}
	r := &run{input: input, fuel: c.Fuel}
	var frames []*frame
	for _, told := range c.Frames {
		f := &frame{Frame: told, run: r, machine: m}
		if !f.standsBehind(frames) || !f.fits() {
			return nil
		}
		frames = append(frames, f)
	}
	return frames
}

// numbered gives the frame of a number; nil, if there is none.
func numbered(frames []*frame, i int) *frame {
	if i < 0 || i >= len(frames) {
		return nil
	}
	return frames[i]
}

// placed gives the frame of a place; nil, if there is none.
func placed(frames []*frame, place []int) *frame {
	for _, f := range frames {
		if slices.Equal(f.Place, place) {
			return f
		}
	}
	return nil
}

// standsBehind tells whether a frame may stand behind these, which are all those ahead of it.
func (f *frame) standsBehind(frames []*frame) bool {
	if len(frames) == 0 {
		return len(f.Place) == 0
	}
	return f.attach(frames[len(frames)-1])
}

// attach makes f the next part of its fan-out, which is the frame ahead of it or one that this is within; false, if it is no such part, or has no machine.
func (f *frame) attach(ahead *frame) bool {
	fan := ahead
	for fan != nil && len(fan.Place) >= len(f.Place) {
		fan = fan.fan
	}
	if fan == nil || fan.Phase != api.Fanned || !slices.Equal(f.Place, fan.partPlace(len(fan.parts))) {
		return false
	}
	f.machine = fan.partMachine(len(fan.parts))
	f.held = fan.held || fan.isFull()
	f.fan = fan
	fan.parts = append(fan.parts, f)
	if f.Phase != api.Done {
		fan.underWay++
	}
	return f.machine != nil
}

// partPlace gives the place of a part.
func (f *frame) partPlace(number int) []int {
	return slices.Concat(f.Place, []int{f.Visit, f.Attempt, number})
}

// partMachine gives the machine of a part; nil, if there is none.
func (f *frame) partMachine(number int) *api.Machine {
	if f.state.Type == api.Map {
		number = 0
	}
	if number >= len(f.state.Parts) {
		return nil
	}
	return &f.state.Parts[number]
}

// isFull tells whether as many of a Map's parts may go on as its Most says.
func (f *frame) isFull() bool {
	return f.state.Type == api.Map && f.state.Most > 0 && f.underWay >= f.state.Most
}

// fits finds the state of a frame, which has its machine, and tells whether all that is told of it may be.
func (f *frame) fits() bool {
	f.state = stateOf(f.machine, f.At)
	return f.state != nil && within(f.Left, 0, api.MaxFuel) && within(f.Visit, 0, maxCount) && within(f.Attempt, 1, maxCount) && f.phaseFits()
}

// phaseFits tells whether a frame's phase goes with its state's type.
func (f *frame) phaseFits() bool {
	switch f.Phase {
	case api.Ready, api.Done:
		return true
	case api.Asked:
		return f.state.Type == api.Task
	case api.Delayed:
		return f.isTried()
	case api.Waiting:
		return f.Back && f.isTried() || !f.Back && f.state.Type == api.Wait
	case api.Fanned:
		return f.state.Type == api.Parallel || f.state.Type == api.Map
	case api.Failed:
		return f.fan == nil
	}
	return false
}

// isTried tells whether a frame's state is of a type that has retriers and catchers.
func (f *frame) isTried() bool {
	return f.state.Type == api.Task || f.state.Type == api.Parallel || f.state.Type == api.Map
}

// stateOf gives the first state of this name; nil, if there is none, or it has no type.
func stateOf(m *api.Machine, name string) *api.State {
	for i := range m.States {
		s := &m.States[i]
		if s.Name == name {
			if s.Type < api.Pass || s.Type > api.Map {
				return nil
			}
			return s
		}
	}
	return nil
}

func within(n int, least, most int64) bool {
	return int64(n) >= least && int64(n) <= most
}

// config tells the whole frame with all its parts.
func (f *frame) config() api.Config {
	frames := f.withParts(nil)
	c := api.Config{Fuel: f.run.fuel, Frames: make([]api.Frame, len(frames))}
	for i, each := range frames {
		c.Frames[i] = each.told()
	}
	return c
}

// withParts lays a frame behind others, and its parts behind it, each with theirs.
func (f *frame) withParts(frames []*frame) []*frame {
	frames = append(frames, f)
	for _, part := range f.parts {
		frames = part.withParts(frames)
	}
	return frames
}

// told gives what counts of a frame. Frames may hold one value while they are worked on (a fan-out's input is that of all its parts), so here each gets memory of its own.
func (f *frame) told() api.Frame {
	t := api.Frame{Place: slices.Clone(f.Place), At: f.At, Visit: f.Visit, Attempt: f.Attempt, Left: f.Left, Raw: json.Norm(f.Raw), Phase: f.Phase, Charged: slices.Clone(f.Charged), Index: noIndex}
	if f.Index >= 0 {
		t.Item, t.Index = json.Norm(f.Item), f.Index
	}
	switch f.Phase {
	case api.Delayed:
		t.Delay, t.Back = f.Delay, true
	case api.Waiting:
		t.Due, t.Back = f.Due, f.Back
	case api.Done:
		t.Result = json.Norm(f.Result)
	case api.Failed:
		t.Error, t.Cause = f.Error, f.Cause
	}
	return t
}
