package valid

import (
	"slices"

	"voyage/api"
)

// ways tells of each state, by its number in its machine, to which ones it leads.
type ways map[int][]int

// checkReach finds the states that nothing leads to from Start, and those that lead to no end.
func checkReach(start string, at *place, in scope) {
	on := waysOn(in)
	back := on.turned(in.kept)
	if i, is := in.first[start]; is {
		on.take([]int{i})
	}
	back.take(ends(in))
	for _, i := range in.kept {
		_, unmet := on[i]
		_, endless := back[i]
		at.member(in.states[i].Name).check(!unmet && !endless, api.ErrReach)
	}
}

// take takes out these states, and all that one can come to from them. One that was taken leads nowhere any more, so each is gone through once.
func (w ways) take(from []int) {
	open := slices.Clone(from)
	for len(open) > 0 {
		last := len(open) - 1
		i := open[last]
		open = append(open[:last], w[i]...)
		delete(w, i)
	}
}

// turned gives the ways back, of the same states.
func (w ways) turned(states []int) ways {
	back := ways{}
	for _, i := range states {
		back[i] = nil // one that nothing leads to is there, too
	}
	for _, i := range states {
		for _, to := range w[i] {
			back[to] = append(back[to], i)
		}
	}
	return back
}

// waysOn gives the states to which each state of a machine leads.
func waysOn(in scope) ways {
	on := ways{}
	for _, i := range in.kept {
		on[i] = nil // one that leads nowhere is there, too
		for _, name := range targets(&in.states[i]) {
			if to, is := in.first[name]; is {
				on[i] = append(on[i], to)
			}
		}
	}
	return on
}

// targets gives the names of the states to which a state would lead, if they are there.
func targets(s *api.State) []string {
	var names []string
	if hasNext(s.Type) && s.Next != "" {
		names = append(names, s.Next)
	}
	if s.Type == api.Choice {
		for i := range s.Rules {
			names = append(names, s.Rules[i].Next)
		}
		if s.Default != "" {
			names = append(names, s.Default)
		}
	}
	if isTried(s.Type) {
		for i := range s.Catch {
			names = append(names, s.Catch[i].Next)
		}
	}
	return names
}

// ends gives the states with which a machine can end.
func ends(in scope) []int {
	var found []int
	for _, i := range in.kept {
		s := &in.states[i]
		if hasNext(s.Type) && s.Next == "" || s.Type == api.Succeed || s.Type == api.Fail {
			found = append(found, i)
		}
	}
	return found
}
