package world_test

import (
	"fmt"
	"reflect"
	"slices"
	"strings"
	"testing"

	"voyage/api"
	"voyage/frame"
	"voyage/json"
	"voyage/record"
	"voyage/world"
)

const taskFailed = "States.TaskFailed"

// retried is the machine of the chapter's examples.
const retried = `{"StartAt":"a","States":{"a":{"Type":"Task","Resource":"r","Retry":[{"ErrorEquals":["States.ALL"],"IntervalSeconds":3,"MaxAttempts":1}],"End":true}}}`

// retriedAnswers are the answers of the chapter's examples.
func retriedAnswers() []api.Answer {
	return []api.Answer{answer("r", 1, wrong("E", "")), answer("r", 0, fine("5"))}
}

// val is the value of a text.
func val(s string) api.Value {
	v, err := json.Parse(s)
	if err != nil {
		panic(s + ": " + err.Error())
	}
	return v
}

func fine(s string) api.Outcome { return api.Outcome{Fine: true, Value: val(s)} }

func wrong(name, cause string) api.Outcome { return api.Outcome{Error: name, Cause: cause} }

func answer(resource string, attempt int, o api.Outcome) api.Answer {
	return api.Answer{Resource: resource, Attempt: attempt, Outcome: o}
}

// Acts, by their kinds.

func starts(machine, input string, fuel int) api.Act {
	return api.Act{Kind: 1, Machine: machine, Input: input, Fuel: fuel}
}

func steps(n int64) api.Act { return api.Act{Kind: 2, N: n} }

func ticks(n int64) api.Act { return api.Act{Kind: 3, N: n} }

func arms(n int64) api.Act { return api.Act{Kind: 4, N: n} }

func restarts(keep, at int, turn uint32) api.Act {
	return api.Act{Kind: 5, Keep: keep, At: at, Turn: turn}
}

// restartsArmed is a restart at which the power may go again.
func restartsArmed(n int64, keep, at int, turn uint32) api.Act {
	return api.Act{Kind: 5, N: n, Keep: keep, At: at, Turn: turn}
}

func ends() api.Act { return api.Act{Kind: 6} }

func goes(n int64) api.Act { return api.Act{Kind: 7, N: n} }

// Replies.

func nothing() api.Reply { return api.Reply{} }

func fails(err error) api.Reply { return api.Reply{Err: err} }

func tells(e api.Event) api.Reply { return api.Reply{Event: e} }

func cameTo(r api.Report) api.Reply { return api.Reply{Ended: true, Report: r} }

func fineEnd(output string) api.Reply { return cameTo(api.Report{Fine: true, Output: val(output)}) }

func badEnd(name, cause string) api.Reply { return cameTo(api.Report{Error: name, Cause: cause}) }

// Events.

func event(kind int, place ...int) api.Event { return api.Event{Kind: kind, Place: place} }

func moved(place ...int) api.Event { return event(api.EvMoved, place...) }

func asked(place ...int) api.Event { return event(api.EvAsked, place...) }

func timed(kind int, time int64, place ...int) api.Event {
	return api.Event{Kind: kind, Time: time, Place: place}
}

func told(o api.Outcome, place ...int) api.Event {
	return api.Event{Kind: api.EvTold, Outcome: o, Place: place}
}

func begun(machine, input string, fuel int) api.Event {
	return api.Event{Kind: api.EvBegun, Machine: machine, Input: input, Fuel: fuel}
}

func key(place []int, visit, attempt int, resource, input string) api.Key {
	return api.Key{Place: place, Visit: visit, Attempt: attempt, Resource: resource, Input: val(input)}
}

// written are events as the disk has them.
func written(events ...api.Event) []byte {
	var b []byte
	for _, x := range events {
		payload, err := record.Encode(x)
		if err != nil {
			panic(err)
		}
		framed, err := frame.Wrap(payload)
		if err != nil {
			panic(err)
		}
		b = append(b, framed...)
	}
	return b
}

// same holds two things against each other field by field; a nil list and an empty one are the same, and so are two faults that are alike.
func same(a, b any) bool { return sameThing(reflect.ValueOf(a), reflect.ValueOf(b)) }

func sameThing(a, b reflect.Value) bool {
	switch a.Kind() {
	case reflect.Slice:
		if a.Len() != b.Len() {
			return false
		}
		for i := range a.Len() {
			if !sameThing(a.Index(i), b.Index(i)) {
				return false
			}
		}
		return true
	case reflect.Struct:
		for i := range a.NumField() {
			if !sameThing(a.Field(i), b.Field(i)) {
				return false
			}
		}
		return true
	case reflect.Interface:
		x, _ := a.Interface().(error)
		y, _ := b.Interface().(error)
		return sameError(x, y)
	}
	return a.Equal(b)
}

// sameError tells whether two errors are the same one, or faults alike.
func sameError(a, b error) bool {
	f, isFault := a.(*api.Fault)
	g, isOther := b.(*api.Fault)
	if isFault && isOther {
		return *f == *g
	}
	return a == b
}

func cut(s string) string {
	if len(s) > 200 {
		return fmt.Sprintf("%s.. (%d bytes)", s[:200], len(s))
	}
	return s
}

func shownEvent(e api.Event) string {
	kind := fmt.Sprint(e.Kind)
	if e.Kind >= 0 && e.Kind <= api.EvJoined {
		kind = []string{"no event", "EvBegun", "EvMoved", "EvAsked", "EvTold", "EvSet", "EvFired", "EvJoined"}[e.Kind]
	}
	return fmt.Sprintf("{%s %v time %d outcome %v %s %q %q begun %q %q %d}", kind, e.Place, e.Time, e.Outcome.Fine, cut(json.Print(e.Outcome.Value)), cut(e.Outcome.Error), cut(e.Outcome.Cause), cut(e.Machine), cut(e.Input), e.Fuel)
}

func shownEvents(l []api.Event) string {
	var out strings.Builder
	fmt.Fprintf(&out, "%d events", len(l))
	for _, e := range l {
		out.WriteString("\n  " + shownEvent(e))
	}
	return out.String()
}

func shownReport(r api.Report) string {
	return fmt.Sprintf("fine %v %s error %q %q steps %d", r.Fine, cut(json.Print(r.Output)), r.Error, r.Cause, r.Steps)
}

func shownReply(r api.Reply) string {
	return fmt.Sprintf("%v; %s; ended %v: %s", r.Err, shownEvent(r.Event), r.Ended, shownReport(r.Report))
}

// shown tells a configuration, a frame a line.
func shown(c api.Config) string {
	var out strings.Builder
	fmt.Fprintf(&out, "fuel %d", c.Fuel)
	for _, f := range c.Frames {
		phase := fmt.Sprint(f.Phase)
		if f.Phase >= 0 && f.Phase <= api.Failed {
			phase = []string{"Ready", "Asked", "Delayed", "Waiting", "Fanned", "Done", "Failed"}[f.Phase]
		}
		fmt.Fprintf(&out, "\n  %v at %q visit %d attempt %d left %d %s raw %.200s charged %v delay %d due %d back %v item %d %.200s result %.200s error %q %q", f.Place, f.At, f.Visit, f.Attempt, f.Left, phase, json.Print(f.Raw), f.Charged, f.Delay, f.Due, f.Back, f.Index, json.Print(f.Item), json.Print(f.Result), f.Error, f.Cause)
	}
	return out.String()
}

// line is an act and what is to come of it.
type line struct {
	act  api.Act
	want api.Reply
}

// play does acts, one behind the other, and holds each reply against what it must be.
func play(t *testing.T, w *world.World, lines ...line) {
	t.Helper()
	for i, l := range lines {
		got := w.Do(l.act)
		if len(got) != 1 {
			t.Fatalf("act %d, %+v: %d replies", i, l.act, len(got))
		}
		if !same(got[0], l.want) {
			t.Fatalf("act %d, %+v: %s\nwant %s\nof %s", i, l.act, shownReply(got[0]), shownReply(l.want), shown(w.Config()))
		}
	}
}

// started is a world with a run.
func started(t *testing.T, answers []api.Answer, machine, input string, fuel int) *world.World {
	t.Helper()
	w := world.New(answers)
	play(t, w, line{starts(machine, input, fuel), nothing()})
	return w
}

func wantNow(t *testing.T, w *world.World, want int64) {
	t.Helper()
	if got := w.Now(); got != want {
		t.Fatalf("Now: %d, not %d", got, want)
	}
}

func wantHistory(t *testing.T, w *world.World, want ...api.Event) {
	t.Helper()
	if got := w.History(); !same(got, want) && len(got)+len(want) > 0 {
		t.Fatalf("History: %s\nwant %s", shownEvents(got), shownEvents(want))
	}
}

func wantAsked(t *testing.T, w *world.World, want ...api.Key) {
	t.Helper()
	if got := w.Asked(); !same(got, want) && len(got)+len(want) > 0 {
		t.Fatalf("Asked: %+v\nwant %+v", got, want)
	}
}

// wantFrames wants that just these frames run.
func wantFrames(t *testing.T, w *world.World, fuel int, want ...api.Frame) {
	t.Helper()
	if got := w.Config(); !same(got, api.Config{Fuel: fuel, Frames: want}) {
		t.Fatalf("Config: %s\nwant %s", shown(got), shown(api.Config{Fuel: fuel, Frames: want}))
	}
}

// wantBlank wants that nothing runs, as an engine or the lack of one tells it.
func wantBlank(t *testing.T, w *world.World) {
	t.Helper()
	wantFrames(t, w, 0)
	wantHistory(t, w)
}

// wantDisk wants that just these events stand on the disk, and the first ones of them, synced, are safe.
func wantDisk(t *testing.T, w *world.World, synced int, want ...api.Event) {
	t.Helper()
	wantBytes(t, w, len(written(want[:synced]...)), written(want...))
}

func wantBytes(t *testing.T, w *world.World, synced int, want []byte) {
	t.Helper()
	got, safe := w.Bytes()
	if !slices.Equal(got, want) || safe != synced {
		t.Fatalf("Bytes: % x, %d of %d synced\nwant % x, %d of %d", got, safe, len(got), want, synced, len(want))
	}
}
