package drive_test

import (
	"voyage/api"
	"voyage/def"
	"voyage/disk"
	"voyage/frame"
	"voyage/json"
	"voyage/kern"
	"voyage/record"
	"voyage/valid"
)

// The model of another make keeps the events that it knows, the clock and whether it is dead; all else it folds anew, from the beginning on, whenever it knows one more. It writes frames on the disk itself.

type model struct {
	disk   *disk.Disk
	do     func(api.Key) api.Outcome
	events []api.Event
	clock  int64
	dead   bool
	last   fold // of the events that it knew when it was last asked
}

// fold is what events come to; ok tells whether all of them can be.
type fold struct {
	events  int
	machine api.Machine
	input   api.Value
	config  api.Config
	ok      bool
}

// beginning is what the first event tells.
func beginning(x api.Event) (m api.Machine, input api.Value, err error) {
	if x.Fuel <= 0 || x.Fuel > 65536 {
		return m, input, api.ErrArg
	}
	v, err := json.Parse(x.Machine)
	if err == nil {
		m, err = def.Read(v)
	}
	if err == nil {
		for _, f := range valid.Check(m) {
			return m, input, &api.Fault{At: f.At, Where: f.Where, Err: f.Err}
		}
		input, err = json.Parse(x.Input)
	}
	return m, input, err
}

func folded(events []api.Event) fold {
	f := fold{events: len(events)}
	if len(events) == 0 || events[0].Kind != api.EvBegun {
		f.ok = len(events) == 0
		return f
	}
	var err error
	if f.machine, f.input, err = beginning(events[0]); err != nil {
		return f
	}
	f.config = kern.Begin(f.machine, f.input, events[0].Fuel)
	for _, x := range events[1:] {
		if f.config, err = kern.Apply(f.machine, f.input, f.config, x); err != nil {
			return f
		}
	}
	f.ok = true
	return f
}

func (m *model) folded() fold {
	if m.last.events != len(m.events) {
		m.last = folded(m.events)
	}
	return m.last
}

// reopen is Open of the model's disk.
func (m *model) reopen() error {
	*m = model{disk: m.disk, do: m.do}
	var found []api.Event
	for _, payload := range framesOf(m.disk.Bytes()) {
		x, err := record.Decode(payload)
		if err != nil {
			break
		}
		found = append(found, x)
	}
	if err := m.cutTo(len(written(found...))); err != nil {
		return err
	}
	for n := range len(found) + 1 {
		if !folded(found[:n]).ok {
			found = found[:n-1]
			break
		}
	}
	if err := m.cutTo(len(written(found...))); err != nil {
		return err
	}
	if m.disk.Synced() != len(m.disk.Bytes()) {
		if err := m.disk.Sync(); err != nil {
			return err
		}
	}
	m.events = found
	return nil
}

func framesOf(file []byte) [][]byte {
	payloads, _ := frame.Scan(file)
	return payloads
}

func (m *model) cutTo(length int) error {
	if length == len(m.disk.Bytes()) {
		return nil
	}
	return m.disk.Cut(length)
}

// write is the book's Add, and its Sync, if it must be safe.
func (m *model) write(x api.Event) error {
	err := m.disk.Append(written(x))
	if err == nil && (x.Kind == api.EvBegun || x.Kind == api.EvAsked || x.Kind == api.EvSet) {
		err = m.disk.Sync()
	}
	if err != nil {
		m.dead = true
		return err
	}
	m.events = append(m.events, x)
	return nil
}

func (m *model) Start(machine, input string, fuel int) error {
	if m.dead {
		return api.ErrDown
	}
	if len(m.events) > 0 {
		return api.ErrState
	}
	if _, _, err := beginning(begun(machine, input, fuel)); err != nil {
		return err
	}
	return m.write(begun(machine, input, fuel))
}

func (m *model) time(now int64) int64 {
	for _, t := range []int64{m.clock, 0} {
		if now < t {
			now = t
		}
	}
	if now > 1<<50 {
		return 1 << 50
	}
	return now
}

// root is the frame of the whole; false, if there is none.
func (m *model) root() (api.Frame, bool) {
	c := m.Config()
	if len(c.Frames) == 0 {
		return api.Frame{}, false
	}
	return c.Frames[0], true
}

func (m *model) over() bool {
	f, is := m.root()
	return is && (f.Phase == api.Done || f.Phase == api.Failed)
}

func (m *model) Step(pick int, now int64) (api.Event, error) {
	if m.dead {
		return api.Event{}, api.ErrDown
	}
	if len(m.events) == 0 || m.over() {
		return api.Event{}, api.ErrState
	}
	m.clock = m.time(now)
	f := m.folded()
	turns := kern.Turns(f.machine, f.config, m.clock)
	if len(turns) == 0 {
		return api.Event{}, api.ErrState
	}
	i := turns[0]
	if pick > 0 {
		i = turns[pick%len(turns)]
	}
	var o api.Outcome
	if k, asked := kern.Key(f.machine, f.input, f.config, i); asked {
		o = m.do(k)
	}
	x, err := kern.Next(f.machine, f.input, f.config, i, m.clock, o)
	if err != nil {
		panic(err)
	}
	if err := m.write(x); err != nil {
		return api.Event{}, err
	}
	return x, nil
}

func (m *model) Turns(now int64) int {
	if m.dead || len(m.events) == 0 || m.over() {
		return 0
	}
	return len(kern.Turns(m.folded().machine, m.folded().config, m.time(now)))
}

func (m *model) Next() int64 {
	least := int64(1) << 62
	for _, f := range m.Config().Frames {
		if f.Phase == api.Waiting && f.Due > m.clock {
			least = min(least, f.Due)
		}
	}
	if m.dead || least == 1<<62 {
		return -1
	}
	return least
}

func (m *model) Config() api.Config { return m.folded().config }

func (m *model) Ended() (api.Report, bool, error) {
	if m.dead {
		return api.Report{}, false, api.ErrDown
	}
	if !m.over() {
		return api.Report{}, false, nil
	}
	if m.disk.Synced() < len(m.disk.Bytes()) && m.disk.Sync() != nil {
		m.dead = true
		return api.Report{}, false, api.ErrDown
	}
	f, _ := m.root()
	return api.Report{Fine: f.Phase == api.Done, Output: f.Result, Error: f.Error, Cause: f.Cause}, true, nil
}

func (m *model) History() []api.Event { return m.events }
