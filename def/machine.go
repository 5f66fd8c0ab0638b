package def

import "voyage/api"

// machine is a machine that is read or told.
type machine api.Machine

func machineFields() []field[machine] {
	return []field[machine]{
		comment[machine](),
		{"StartAt", "StartAt", (*machine).readStart, (*machine).tellStart},
		{"States", "States", (*machine).readStates, (*machine).tellStates},
	}
}

func readMachine(n *node) api.Machine {
	var m machine
	readFields(&m, n, machineFields())
	return api.Machine(m)
}

func tellMachine(m *api.Machine) api.Value {
	return tellFields((*machine)(m), machineFields())
}

func (m *machine) readStart(n *node)            { m.Start = n.name() }
func (m *machine) tellStart() (api.Value, bool) { return tellText(m.Start), true }

func (m *machine) readStates(n *node) {
	n.need(api.Object)
	for _, f := range n.value.Fields {
		at := n.member(f.Name, f.Value)
		at.check(f.Name != "", api.ErrField)
		m.States = append(m.States, readState(at))
	}
}

// tellStates tells all of them: of several with one name the one form has the first.
func (m *machine) tellStates() (api.Value, bool) {
	told := api.Value{Kind: api.Object}
	for i := range m.States {
		s := &m.States[i]
		told.Fields = append(told.Fields, api.Field{Name: s.Name, Value: tellState(s)})
	}
	return told, true
}
