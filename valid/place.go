package valid

import (
	"slices"

	"voyage/api"
	"voyage/path"
)

// place is where something stands in the machine as def.Print tells it. The way to it is made a text only where a fault is found: most places have none.
type place struct {
	step   api.Step // by which it is come to from up
	up     *place   // nil: this is the whole
	faults *[]api.Fault
}

// check finds a fault here, unless ok. All places have one list of faults, so the order of the checks is that of the answer.
func (p *place) check(ok bool, err error) {
	if !ok {
		*p.faults = append(*p.faults, api.Fault{Where: p.where(), Err: err})
	}
}

// where tells the path to the place.
func (p *place) where() string {
	var steps []api.Step
	for at := p; at.up != nil; at = at.up {
		steps = append(steps, at.step)
	}
	slices.Reverse(steps)
	return path.Text(api.Path{Steps: steps})
}

// member is the place of a field of an object.
func (p *place) member(name string) *place {
	return &place{step: api.Step{Name: name}, up: p, faults: p.faults}
}

// element is the place of an element of a list.
func (p *place) element(number int) *place {
	return &place{step: api.Step{Place: number, IsAt: true}, up: p, faults: p.faults}
}

// bound wants a number of a field that is neither below least nor above most.
func (p *place) bound(name string, number, least, most int) {
	p.member(name).check(number >= least && number <= most, api.ErrRange)
}
