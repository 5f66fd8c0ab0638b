package drive

import (
	"voyage/api"
	"voyage/def"
	"voyage/json"
	"voyage/kern"
	"voyage/valid"
)

// run is a machine with an input, as far as its journal goes.
type run struct {
	machine api.Machine
	input   api.Value
	config  api.Config
	journal []api.Event
}

// begin gives the run of a beginning, or the first that is wrong with it, in the order that P17.3 tells.
func begin(machine, input string, fuel int) (*run, error) {
	if fuel < 1 || fuel > api.MaxFuel {
		return nil, api.ErrArg
	}
	m, err := read(machine)
	if err != nil {
		return nil, err
	}
	v, err := json.Parse(input)
	if err != nil {
		return nil, err
	}
	begun := api.Event{Kind: api.EvBegun, Machine: machine, Input: input, Fuel: fuel}
	return &run{machine: m, input: v, config: kern.Begin(m, v, fuel), journal: []api.Event{begun}}, nil
}

// read gives the machine that a text tells, or the first that is wrong with it.
func read(text string) (api.Machine, error) {
	v, err := json.Parse(text)
	if err != nil {
		return api.Machine{}, err
	}
	m, err := def.Read(v)
	if err != nil {
		return api.Machine{}, err
	}
	if faults := valid.Check(m); len(faults) > 0 {
		first := faults[0]
		return api.Machine{}, &first
	}
	return m, nil
}

// fold gives the run that events tell, up to the first that can't be; nil, if that is the first of all.
func fold(events []api.Event) *run {
	if len(events) == 0 || events[0].Kind != api.EvBegun {
		return nil
	}
	r, err := begin(events[0].Machine, events[0].Input, events[0].Fuel)
	if err != nil {
		return nil
	}
	for _, x := range events[1:] {
		if r.apply(x) != nil {
			break
		}
	}
	return r
}

// length tells how many events a run has; none, if there is no run.
func (r *run) length() int {
	if r == nil {
		return 0
	}
	return len(r.journal)
}

// apply lays an event behind the journal, if it can be.
func (r *run) apply(x api.Event) error {
	c, err := kern.Apply(r.machine, r.input, r.config, x)
	if err != nil {
		return err
	}
	r.config, r.journal = c, append(r.journal, x)
	return nil
}

func (r *run) turns(now int64) []int { return kern.Turns(r.machine, r.config, now) }

// deadline gives the least Due above the clock; none, if there is none.
func (r *run) deadline(clock int64) int64 {
	least := int64(none)
	for _, f := range r.config.Frames {
		if f.Phase == api.Waiting && f.Due > clock && (least == none || f.Due < least) {
			least = f.Due
		}
	}
	return least
}

func (r *run) root() api.Frame { return r.config.Frames[0] }

func (r *run) isOver() bool {
	phase := r.root().Phase
	return phase == api.Done || phase == api.Failed
}

// report tells what a run that is over came to.
func (r *run) report() api.Report {
	root := r.root()
	if root.Phase == api.Failed {
		return api.Report{Error: root.Error, Cause: root.Cause}
	}
	return api.Report{Fine: true, Output: json.Norm(root.Result)}
}
