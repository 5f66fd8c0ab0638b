package world_test

import (
	"slices"

	"voyage/api"
	"voyage/def"
	"voyage/disk"
	"voyage/frame"
	"voyage/json"
	"voyage/kern"
	"voyage/record"
	"voyage/valid"
)

// The model of another make has no engine of its own: it keeps the disk, the events that are known, and whether the power has gone since they were found; all else it folds anew.

type model struct {
	disk    *disk.Disk
	answers []api.Answer
	events  []api.Event
	dead    bool // behind a failure
	lacking bool // there is no engine
	now     int64
	asked   []api.Key
	last    folded // of the events that it knew when it was last asked
}

// folded is what events come to; ok tells whether all of them can be.
type folded struct {
	events  int
	machine api.Machine
	input   api.Value
	config  api.Config
	ok      bool
}

func newModel(answers []api.Answer) *model { return &model{disk: disk.New(), answers: answers} }

// beginning is what the first event tells.
func beginning(x api.Event) (m api.Machine, input api.Value, err error) {
	if x.Fuel <= 0 || x.Fuel > 65536 {
		return m, input, api.ErrArg
	}
	v, err := json.Parse(x.Machine)
	if err == nil {
		m, err = def.Read(v)
	}
	if err == nil {
		for _, f := range valid.Check(m) {
			return m, input, &api.Fault{At: f.At, Where: f.Where, Err: f.Err}
		}
		input, err = json.Parse(x.Input)
	}
	return m, input, err
}

func fold(events []api.Event) folded {
	f := folded{events: len(events)}
	if len(events) == 0 || events[0].Kind != api.EvBegun {
		f.ok = len(events) == 0
		return f
	}
	var err error
	if f.machine, f.input, err = beginning(events[0]); err != nil {
		return f
	}
	f.config = kern.Begin(f.machine, f.input, events[0].Fuel)
	for _, x := range events[1:] {
		if f.config, err = kern.Apply(f.machine, f.input, f.config, x); err != nil {
			return f
		}
	}
	f.ok = true
	return f
}

func (m *model) folded() folded {
	if m.last.events != len(m.events) {
		m.last = fold(m.events)
	}
	return m.last
}

func (m *model) Config() api.Config { return m.folded().config }

func (m *model) over() bool {
	c := m.Config()
	return len(c.Frames) > 0 && (c.Frames[0].Phase == api.Done || c.Frames[0].Phase == api.Failed)
}

// eventsIn are the events that stand whole in a file.
func eventsIn(file []byte) []api.Event {
	payloads, _ := frame.Scan(file)
	var found []api.Event
	for _, p := range payloads {
		x, err := record.Decode(p)
		if err != nil {
			break
		}
		found = append(found, x)
	}
	return found
}

// reopen makes an engine anew, or doesn't.
func (m *model) reopen() error {
	m.events, m.dead, m.lacking = nil, false, true
	found := eventsIn(m.disk.Bytes())
	if whole := len(written(found...)); whole != len(m.disk.Bytes()) {
		if err := m.disk.Cut(whole); err != nil {
			return err
		}
	}
	if m.disk.Synced() != len(m.disk.Bytes()) {
		if err := m.disk.Sync(); err != nil {
			return err
		}
	}
	m.events, m.lacking = found, false
	return nil
}

// write lays an event down, and makes it safe, if it must be.
func (m *model) write(x api.Event) error {
	err := m.disk.Append(written(x))
	if err == nil && slices.Contains([]int{api.EvBegun, api.EvAsked, api.EvSet}, x.Kind) {
		err = m.disk.Sync()
	}
	if err != nil {
		m.dead = true
		return err
	}
	m.events = append(m.events, x)
	return nil
}

func (m *model) start(machine, input string, fuel int) error {
	if m.dead {
		return api.ErrDown
	}
	if len(m.events) > 0 {
		return api.ErrState
	}
	if _, _, err := beginning(begun(machine, input, fuel)); err != nil {
		return err
	}
	return m.write(begun(machine, input, fuel))
}

// outcome is what the answers say of a key.
func (m *model) outcome(k api.Key) api.Outcome {
	m.asked = append(m.asked, k)
	for _, a := range m.answers {
		if a.Resource == k.Resource && (a.Attempt == k.Attempt || a.Attempt == 0) {
			return a.Outcome
		}
	}
	return wrong(taskFailed, "")
}

// turns are those that can be taken now.
func (m *model) turns() []int {
	if m.dead || len(m.events) == 0 || m.over() {
		return nil
	}
	return kern.Turns(m.folded().machine, m.Config(), m.now)
}

func (m *model) step(pick int64) (api.Event, error) {
	if m.dead {
		return api.Event{}, api.ErrDown
	}
	turns := m.turns()
	if len(turns) == 0 {
		return api.Event{}, api.ErrState
	}
	i := turns[0]
	if pick > 0 {
		i = turns[pick%int64(len(turns))]
	}
	f := m.folded()
	var o api.Outcome
	if k, is := kern.Key(f.machine, f.input, f.config, i); is {
		o = m.outcome(k)
	}
	x, err := kern.Next(f.machine, f.input, f.config, i, m.now, o)
	if err != nil {
		panic(err)
	}
	if err := m.write(x); err != nil {
		return api.Event{}, err
	}
	return x, nil
}

// deadline is the least one that is to come.
func (m *model) deadline() (int64, bool) {
	var dues []int64
	for _, f := range m.Config().Frames {
		if f.Phase == api.Waiting && f.Due > m.now && !m.dead {
			dues = append(dues, f.Due)
		}
	}
	if len(dues) == 0 {
		return 0, false
	}
	return slices.Min(dues), true
}

func (m *model) ended() api.Reply {
	if m.dead {
		return fails(api.ErrDown)
	}
	if !m.over() {
		return nothing()
	}
	if m.disk.Synced() < len(m.disk.Bytes()) && m.disk.Sync() != nil {
		m.dead = true
		return fails(api.ErrDown)
	}
	f := m.Config().Frames[0]
	return cameTo(api.Report{Fine: f.Phase == api.Done, Output: f.Result, Error: f.Error, Cause: f.Cause})
}

func (m *model) goOn(n int64) (r api.Reply) {
	for n = min(n, 65536); n > 0; n-- {
		if len(m.turns()) > 0 {
			x, err := m.step(0)
			if err != nil {
				r.Err = err
				return r
			}
			r.Event = x
		} else if due, is := m.deadline(); is {
			m.now = due
		} else {
			return r
		}
	}
	return r
}

// do does an act.
func (m *model) do(a api.Act) api.Reply {
	if m.lacking && slices.Contains([]int{1, 2, 6, 7}, a.Kind) {
		return fails(api.ErrDown)
	}
	switch a.Kind {
	case 1:
		return fails(m.start(a.Machine, a.Input, a.Fuel))
	case 2:
		x, err := m.step(a.N)
		return api.Reply{Event: x, Err: err}
	case 3:
		if a.N < 0 || a.N > 1<<50 {
			return fails(api.ErrArg)
		}
		m.now = min(m.now+a.N, 1<<50)
	case 4:
		if a.N < 0 || a.N > 1<<31 {
			a.N = 0
		}
		m.disk.Arm(int(a.N))
	case 5:
		m.disk.Crash(a.Keep, a.At, a.Turn)
		if a.N > 0 && a.N <= 1<<31 {
			m.disk.Arm(int(a.N))
		}
		return fails(m.reopen())
	case 6:
		return m.ended()
	case 7:
		return m.goOn(a.N)
	default:
		return fails(api.ErrArg)
	}
	return nothing()
}
