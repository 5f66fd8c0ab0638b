package drive_test

import (
	"errors"
	"fmt"
	"reflect"
	"slices"
	"strings"
	"testing"

	"voyage/api"
	"voyage/disk"
	"voyage/drive"
	"voyage/json"
)

// The machine and the input of the chapter's examples.
const (
	taskMachine = `{"StartAt":"a","States":{"a":{"Type":"Task","Resource":"r","Next":"b"},"b":{"Type":"Succeed"}}}`
	taskInput   = `7`
)

const taskFailed = "States.TaskFailed"

// val is the value of a text.
func val(s string) api.Value {
	v, err := json.Parse(s)
	if err != nil {
		panic(s + ": " + err.Error())
	}
	return v
}

func fine(s string) api.Outcome { return api.Outcome{Fine: true, Value: val(s)} }

func wrong(name, cause string) api.Outcome { return api.Outcome{Error: name, Cause: cause} }

func answer(resource string, attempt int, o api.Outcome) api.Answer {
	return api.Answer{Resource: resource, Attempt: attempt, Outcome: o}
}

// event is one of a kind, of a place.
func event(kind int, place ...int) api.Event { return api.Event{Kind: kind, Place: place} }

// timed is one with a time.
func timed(kind int, time int64, place ...int) api.Event {
	return api.Event{Kind: kind, Time: time, Place: place}
}

// told is one with an outcome.
func told(o api.Outcome, place ...int) api.Event {
	return api.Event{Kind: api.EvTold, Outcome: o, Place: place}
}

func begun(machine, input string, fuel int) api.Event {
	return api.Event{Kind: api.EvBegun, Machine: machine, Input: input, Fuel: fuel}
}

// clerk notes which keys were asked, and does them by a function.
type clerk struct {
	asked []api.Key
	does  func(api.Key) api.Outcome
}

func (c *clerk) Do(k api.Key) api.Outcome {
	c.asked = append(c.asked, k)
	return c.does(k)
}

// echoing is a clerk who answers the input.
func echoing() *clerk {
	return &clerk{does: func(k api.Key) api.Outcome { return api.Outcome{Fine: true, Value: k.Input} }}
}

// failing is one who answers an error.
func failing(name, cause string) *clerk {
	return &clerk{does: func(api.Key) api.Outcome { return wrong(name, cause) }}
}

// same holds two things against each other field by field; a nil list and an empty one are the same.
func same(a, b any) bool { return sameThing(reflect.ValueOf(a), reflect.ValueOf(b)) }

func sameThing(a, b reflect.Value) bool {
	switch a.Kind() {
	case reflect.Slice:
		if a.Len() != b.Len() {
			return false
		}
		for i := range a.Len() {
			if !sameThing(a.Index(i), b.Index(i)) {
				return false
			}
		}
		return true
	case reflect.Struct:
		for i := range a.NumField() {
			if !sameThing(a.Field(i), b.Field(i)) {
				return false
			}
		}
		return true
	}
	return a.Equal(b)
}

func sameEvents(a, b []api.Event) bool {
	return slices.EqualFunc(a, b, func(x, y api.Event) bool { return same(x, y) })
}

// sameError tells whether two errors are the same one, or faults alike.
func sameError(a, b error) bool {
	f, isFault := a.(*api.Fault)
	g, isOther := b.(*api.Fault)
	if isFault && isOther {
		return *f == *g
	}
	return a == b
}

func cut(s string) string {
	if len(s) > 120 {
		return fmt.Sprintf("%s.. (%d bytes)", s[:120], len(s))
	}
	return s
}

func shownEvent(e api.Event) string {
	kind := fmt.Sprint(e.Kind)
	if e.Kind > 0 && e.Kind <= api.EvJoined {
		kind = []string{"", "EvBegun", "EvMoved", "EvAsked", "EvTold", "EvSet", "EvFired", "EvJoined"}[e.Kind]
	}
	return fmt.Sprintf("{%s %v time %d outcome %v %s %q %q begun %q %q %d}", kind, e.Place, e.Time, e.Outcome.Fine, cut(json.Print(e.Outcome.Value)), cut(e.Outcome.Error), cut(e.Outcome.Cause), cut(e.Machine), cut(e.Input), e.Fuel)
}

func shownEvents(l []api.Event) string {
	var out strings.Builder
	fmt.Fprintf(&out, "%d events", len(l))
	for _, e := range l {
		out.WriteString("\n  " + shownEvent(e))
	}
	return out.String()
}

// shown tells a configuration, a frame a line.
func shown(c api.Config) string {
	var out strings.Builder
	fmt.Fprintf(&out, "fuel %d", c.Fuel)
	for _, f := range c.Frames {
		phase := fmt.Sprint(f.Phase)
		if f.Phase >= 0 && f.Phase <= api.Failed {
			phase = []string{"Ready", "Asked", "Delayed", "Waiting", "Fanned", "Done", "Failed"}[f.Phase]
		}
		fmt.Fprintf(&out, "\n  %v at %q visit %d attempt %d left %d %s raw %.200s charged %v delay %d due %d back %v item %d %.200s result %.200s error %q %q", f.Place, f.At, f.Visit, f.Attempt, f.Left, phase, json.Print(f.Raw), f.Charged, f.Delay, f.Due, f.Back, f.Index, json.Print(f.Item), json.Print(f.Result), f.Error, f.Cause)
	}
	return out.String()
}

// wantError holds an error against the very one that it must be.
func wantError(t *testing.T, what string, got, want error) {
	t.Helper()
	if got != want {
		t.Fatalf("%s: %v, not %v", what, got, want)
	}
}

// wantFault wants a fault itself, with its error and its place.
func wantFault(t *testing.T, what string, got error, want api.Fault) {
	t.Helper()
	f, is := got.(*api.Fault)
	if !is || *f != want || !errors.Is(got, want.Err) {
		t.Fatalf("%s: %v, not %v at %d, %q", what, got, want.Err, want.At, want.Where)
	}
}

// opened is the engine of a disk that can be opened.
func opened(t *testing.T, d *disk.Disk, tasks drive.Tasks) *drive.Engine {
	t.Helper()
	e, err := drive.Open(d, tasks)
	if e == nil || err != nil {
		t.Fatalf("Open: %v, %v", e, err)
	}
	return e
}

func notOpened(t *testing.T, what string, d *disk.Disk, want error) {
	t.Helper()
	if e, err := drive.Open(d, nil); e != nil || err != want {
		t.Fatalf("%s: Open: %v, %v; not %v", what, e, err, want)
	}
}

// started is an engine on a new disk, with a run.
func started(t *testing.T, tasks drive.Tasks, machine, input string, fuel int) (*drive.Engine, *disk.Disk) {
	t.Helper()
	d := disk.New()
	e := opened(t, d, tasks)
	wantError(t, "Start", e.Start(machine, input, fuel), nil)
	return e, d
}

// steps takes the turn of a pick, and holds the event against the one that it must be.
func steps(t *testing.T, e *drive.Engine, pick int, now int64, want api.Event) {
	t.Helper()
	got, err := e.Step(pick, now)
	if err != nil || !same(got, want) {
		t.Fatalf("Step(%d, %d): %s, %v\nwant %s\nof %s", pick, now, shownEvent(got), err, shownEvent(want), shown(e.Config()))
	}
}

// noStep wants that a step is refused.
func noStep(t *testing.T, e *drive.Engine, pick int, now int64, want error) {
	t.Helper()
	got, err := e.Step(pick, now)
	if err != want || !same(got, api.Event{}) {
		t.Fatalf("Step(%d, %d): %s, %v, not %v; of %s", pick, now, shownEvent(got), err, want, shown(e.Config()))
	}
}

func wantTurns(t *testing.T, e *drive.Engine, now int64, want int) {
	t.Helper()
	if got := e.Turns(now); got != want {
		t.Fatalf("Turns(%d): %d, not %d, of %s", now, got, want, shown(e.Config()))
	}
}

func wantNext(t *testing.T, e *drive.Engine, want int64) {
	t.Helper()
	if got := e.Next(); got != want {
		t.Fatalf("Next: %d, not %d, of %s", got, want, shown(e.Config()))
	}
}

func wantHistory(t *testing.T, e *drive.Engine, want ...api.Event) {
	t.Helper()
	if got := e.History(); !sameEvents(got, want) {
		t.Fatalf("History: %s\nwant %s", shownEvents(got), shownEvents(want))
	}
}

// wantRoot wants that a configuration is of one frame, which is this one.
func wantRoot(t *testing.T, e *drive.Engine, fuel int, want api.Frame) {
	t.Helper()
	if got := e.Config(); !same(got, api.Config{Fuel: fuel, Frames: []api.Frame{want}}) {
		t.Fatalf("Config: %s\nwant %s", shown(got), shown(api.Config{Fuel: fuel, Frames: []api.Frame{want}}))
	}
}

// wantBlank wants that nothing has begun.
func wantBlank(t *testing.T, e *drive.Engine) {
	t.Helper()
	if c := e.Config(); c.Fuel != 0 || len(c.Frames) != 0 {
		t.Fatalf("Config of no run: %s", shown(c))
	}
	wantHistory(t, e)
	wantTurns(t, e, api.MaxTime, 0)
	wantNext(t, e, -1)
}

func wantEnded(t *testing.T, e *drive.Engine, want api.Report) {
	t.Helper()
	if got, is, err := e.Ended(); !is || err != nil || !same(got, want) {
		t.Fatalf("Ended: %+v, %v, %v; not %+v", got, is, err, want)
	}
}

func wantNotEnded(t *testing.T, e *drive.Engine, want error) {
	t.Helper()
	if got, is, err := e.Ended(); is || err != want || !same(got, api.Report{}) {
		t.Fatalf("Ended: %+v, %v, %v; not %v", got, is, err, want)
	}
}

func wantSynced(t *testing.T, d *disk.Disk, want bool) {
	t.Helper()
	if all := len(d.Bytes()); (d.Synced() == all) != want {
		t.Fatalf("%d of %d bytes are safe", d.Synced(), all)
	}
}

// copied is another disk with the same bytes, all of them safe.
func copied(d *disk.Disk) *disk.Disk {
	other := disk.New()
	other.Append(d.Bytes())
	other.Sync()
	return other
}

// wantAlike holds that a new Open of the same bytes finds just what an engine knows, and cuts nothing off: P17.9.
func wantAlike(t *testing.T, e *drive.Engine, d *disk.Disk) {
	t.Helper()
	other := copied(d)
	again := opened(t, other, nil)
	wantHistory(t, again, e.History()...)
	if !same(again.Config(), e.Config()) {
		t.Fatalf("found again: %s\nwant %s", shown(again.Config()), shown(e.Config()))
	}
	if got, want := len(other.Bytes()), len(d.Bytes()); got != want {
		t.Fatalf("%d of %d bytes were cut off", want-got, want)
	}
}
