package kern

import (
	"slices"

	"voyage/api"
)

const noKind = 0 // of a frame that has no event

// deed is what a kind of event asks and does: whether one may be as it is told, of a frame whose event is of that kind, and what comes of it.
type deed struct {
	may func(*frame, api.Event) bool
	do  func(*frame, api.Event)
}

// deeds gives what each kind of event asks and does.
func deeds() [api.EvJoined + 1]deed {
	return [...]deed{
		api.EvMoved:  {(*frame).mayAlways, (*frame).move},
		api.EvAsked:  {(*frame).mayAlways, (*frame).ask},
		api.EvTold:   {(*frame).mayTell, (*frame).hear},
		api.EvSet:    {(*frame).maySet, (*frame).set},
		api.EvFired:  {(*frame).mayFire, (*frame).fire},
		api.EvJoined: {(*frame).mayAlways, (*frame).join},
	}
}

// hasTurn tells whether a frame has an event at now, and isn't held back.
func (f *frame) hasTurn(now int64) bool {
	switch f.Phase {
	case api.Ready, api.Asked, api.Delayed:
		return !f.held
	case api.Waiting:
		return !f.held && f.Due <= now
	case api.Fanned:
		return !f.held && f.underWay == 0
	}
	return false
}

// kind tells of which kind a frame's event is, at whatever now.
func (f *frame) kind() int {
	switch f.Phase {
	case api.Ready:
		return f.readyKind()
	case api.Asked:
		return api.EvTold
	case api.Delayed:
		return api.EvSet
	case api.Waiting:
		return api.EvFired
	case api.Fanned:
		if f.underWay == 0 {
			return api.EvJoined
		}
	}
	return noKind
}

// readyKind is kind of a frame that is Ready.
func (f *frame) readyKind() int {
	switch f.state.Type {
	case api.Task:
		if _, name := f.in(); name == noName {
			return api.EvAsked
		}
	case api.Wait:
		if _, ok := f.timer(); ok {
			return api.EvSet
		}
	}
	return api.EvMoved
}

// event gives the event of a frame that has a turn at now.
func (f *frame) event(now int64, o api.Outcome) api.Event {
	e := api.Event{Kind: f.kind(), Place: slices.Clone(f.Place)}
	switch e.Kind {
	case api.EvTold:
		e.Outcome = taken(o)
	case api.EvSet:
		e.Time = f.deadline(now)
	case api.EvFired:
		e.Time = now
	}
	return e
}

// takes tells whether e can be the event of a frame, at some now.
func (f *frame) takes(e api.Event) bool {
	kind := f.kind()
	return kind != noKind && kind == e.Kind && deeds()[kind].may(f, e)
}

func (f *frame) mayAlways(api.Event) bool { return true }

func (f *frame) mayTell(e api.Event) bool { return sameOutcome(e.Outcome, taken(e.Outcome)) }

// maySet asks for no more than that a fixed moment has come: how long a timer runs from its now on nobody knows here.
func (f *frame) maySet(e api.Event) bool { return isTime(e.Time) && e.Time >= f.earliest() }

func (f *frame) mayFire(e api.Event) bool { return isTime(e.Time) && e.Time >= f.Due }
