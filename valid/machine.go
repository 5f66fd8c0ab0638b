package valid

import "voyage/api"

// scope is a machine as its states see it.
type scope struct {
	states []api.State
	first  map[string]int // by a name, which state is the first that has it
	kept   []int          // which states are the first of their names: the others don't count
	deep   int            // the whole is 1 deep
}

func newScope(states []api.State, deep int) scope {
	in := scope{states: states, first: map[string]int{}, deep: deep}
	for i := range states {
		if name := states[i].Name; !in.has(name) {
			in.first[name] = i
			in.kept = append(in.kept, i)
		}
	}
	return in
}

// has tells whether there is a state of this name.
func (in scope) has(name string) bool {
	_, is := in.first[name]
	return is
}

// checkMachine finds the faults of a machine: P9.1, P9.4.
func checkMachine(m *api.Machine, at *place, deep int) {
	at.check(deep <= api.MaxDepth, api.ErrDeep)
	if deep > api.MaxDepth { // nothing else of it is told
		return
	}
	in := newScope(m.States, deep)
	at.member("StartAt").check(in.has(m.Start), api.ErrTarget)
	states := at.member("States")
	for i := range m.States {
		s := &m.States[i]
		if in.first[s.Name] == i {
			checkState(s, states.member(s.Name), in)
		} else {
			states.member(s.Name).check(false, api.ErrTwice)
		}
	}
	checkReach(m.Start, states, in)
}
