package world

import "voyage/api"

// Kinds of acts.
const (
	start = iota + 1
	step
	tick
	arm
	restart
	ended
	goOn
)

const (
	mostArmed = 1 << 31 // acts of the disk till the power goes
	mostSteps = 1 << 16 // of a go
)

// deed is what an act of one kind does.
type deed struct {
	does        func(w *World, a api.Act) api.Reply
	needsEngine bool
}

// deeds is the table of what each kind does.
func deeds() []deed {
	return []deed{
		start:   {does: (*World).start, needsEngine: true},
		step:    {does: (*World).step, needsEngine: true},
		tick:    {does: (*World).tick},
		arm:     {does: (*World).arm},
		restart: {does: (*World).restart},
		ended:   {does: (*World).ended, needsEngine: true},
		goOn:    {does: (*World).goOn, needsEngine: true},
	}
}

// play does an act by the table of deeds.
func (w *World) play(table []deed, a api.Act) api.Reply {
	if a.Kind < start || a.Kind >= len(table) {
		return api.Reply{Err: api.ErrArg}
	}
	d := table[a.Kind]
	if d.needsEngine && w.engine == nil {
		return api.Reply{Err: api.ErrDown}
	}
	return d.does(w, a)
}

func (w *World) start(a api.Act) api.Reply {
	return api.Reply{Err: w.engine.Start(a.Machine, a.Input, a.Fuel)}
}

func (w *World) step(a api.Act) api.Reply {
	pick := int(a.N)
	if int64(pick) != a.N {
		pick = 0
	}
	x, err := w.engine.Step(pick, w.time)
	return api.Reply{Event: x, Err: err}
}

func (w *World) tick(a api.Act) api.Reply {
	if a.N < 0 || a.N > api.MaxTime {
		return api.Reply{Err: api.ErrArg}
	}
	w.time = min(w.time+a.N, api.MaxTime)
	return api.Reply{}
}

func (w *World) arm(a api.Act) api.Reply {
	n := a.N
	if n < 0 || n > mostArmed {
		n = 0
	}
	w.disk.Arm(int(n))
	return api.Reply{}
}

func (w *World) restart(a api.Act) api.Reply {
	w.disk.Crash(a.Keep, a.At, a.Turn)
	if a.N >= 1 && a.N <= mostArmed {
		w.disk.Arm(int(a.N))
	}
	return api.Reply{Err: w.open()}
}

func (w *World) ended(api.Act) api.Reply {
	report, is, err := w.engine.Ended()
	return api.Reply{Ended: is, Report: report, Err: err}
}

// goOn takes the first turn whenever there is one, and lets the time go on to the next deadline whenever there is none. What its last step came to stands beside an error, too.
func (w *World) goOn(a api.Act) api.Reply {
	var r api.Reply
	for range min(a.N, mostSteps) {
		if w.engine.Turns(w.time) == 0 {
			due := w.engine.Next()
			if due < 0 {
				break
			}
			// Whatever waits and has no turn is due behind the time: the time doesn't fall here.
			w.time = due
			continue
		}
		x, err := w.engine.Step(0, w.time)
		if err != nil {
			r.Err = err
			break
		}
		r.Event = x
	}
	return r
}
