package dry

import (
	"voyage/api"
	"voyage/path"
	"voyage/pipe"
)

// branch fans a Parallel out.
func (f *frame) branch(in api.Value) {
	if len(f.state.Parts) > api.MaxParts {
		f.trouble(runtimeName, noCause)
		return
	}
	f.fan(len(f.state.Parts), func(number int) (*frame, api.Value, string) {
		return f.newPart(number, f.item), in, noName
	})
}

// iterate fans a Map out.
func (f *frame) iterate(in api.Value) {
	items, _ := path.Get(f.state.Items, in, f.context())
	if items.Kind != api.List || len(items.List) > api.MaxParts || len(f.state.Parts) == 0 {
		f.trouble(runtimeName, noCause)
		return
	}
	f.fan(len(items.List), func(number int) (*frame, api.Value, string) {
		its := &item{number, items.List[number]}
		v, name := f.partInput(its, in)
		return f.newPart(0, its), v, name
	})
}

// newPart gives a part, by the number of its machine, that has entered no state yet.
func (f *frame) newPart(machine int, its *item) *frame {
	part := f.newFrame(&f.state.Parts[machine])
	part.item = its
	return part
}

// partInput gives what a Map's part begins with, or an error's name.
func (f *frame) partInput(its *item, in api.Value) (api.Value, string) {
	if !f.state.HasParameters {
		return its.value, noName
	}
	filled, err := pipe.Fill(f.state.Parameters, in, f.contextWith(its))
	switch err {
	case nil:
		return filled, noName
	case api.ErrLong:
		return api.Value{}, limitName
	}
	return api.Value{}, parametersName
}

// fan makes so many parts and, if all of them enter their first states, runs them. What gives a part, which has entered none yet, gives its input, too, or an error's name.
func (f *frame) fan(many int, give func(number int) (*frame, api.Value, string)) {
	var parts []*frame
	for number := range many {
		part, v, name := give(number)
		if name != noName {
			f.trouble(name, noCause)
			return
		}
		part.enter(part.machine.Start, v)
		if part.phase == api.Failed {
			f.decide(f.visit, f.attempt, []int{number})
			f.trouble(part.name, part.cause)
			return
		}
		parts = append(parts, part)
	}
	for number, part := range parts {
		f.goInto(f.visit, f.attempt, number)
		part.toEnd()
		f.goBack()
	}
	f.join(parts)
}

// join goes on with what the parts came to, all of which have ended.
func (f *frame) join(parts []*frame) {
	can := f.canWin(parts)
	if len(can) > 0 {
		won := parts[f.decide(f.visit, f.attempt, can)]
		f.trouble(won.name, won.cause)
		return
	}
	var results []api.Value
	for _, part := range parts {
		results = append(results, part.result)
	}
	f.count(joined)
	f.finish(api.Value{Kind: api.List, List: results})
}

// canWin gives the numbers of the parts that can be the first to fail, rising.
func (f *frame) canWin(parts []*frame) []int {
	most := len(parts)
	if f.state.Type == api.Map && f.state.Most > 0 {
		most = f.state.Most
	}
	var can []int
	canBeFirst := func(number int) bool { // as long as they are fewer than most, all that fail ahead of it are in can
		return parts[number].phase == api.Failed && len(can) < most
	}
	for number := range parts {
		if canBeFirst(number) {
			can = append(can, number)
		}
	}
	return can
}
