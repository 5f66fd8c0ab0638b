package drive_test

import (
	"bytes"
	"strings"
	"testing"

	"voyage/api"
	"voyage/disk"
	"voyage/frame"
	"voyage/record"
)

// written is the bytes of a journal of these events.
func written(events ...api.Event) []byte {
	var file []byte
	for _, x := range events {
		payload, err := record.Encode(x)
		if err != nil {
			panic(shownEvent(x) + ": " + err.Error())
		}
		whole, err := frame.Wrap(payload)
		if err != nil {
			panic(err)
		}
		file = append(file, whole...)
	}
	return file
}

// holding is a disk with bytes that are safe, and a tail behind them.
func holding(safe, tail []byte) *disk.Disk {
	d := disk.New()
	d.Append(safe)
	d.Sync()
	d.Append(tail)
	return d
}

// good are the events of a run of the chapter's machine, from its beginning to its end.
func good() []api.Event {
	return []api.Event{begun(taskMachine, taskInput, 5), event(api.EvAsked), told(fine("7")), event(api.EvMoved)}
}

// wantFile wants that these bytes stand on a disk, all of them safe.
func wantFile(t *testing.T, d *disk.Disk, want []byte) {
	t.Helper()
	if got := d.Bytes(); !bytes.Equal(got, want) || d.Synced() != len(want) {
		t.Fatalf("the disk has %d bytes, %d of them safe; not %d", len(got), d.Synced(), len(want))
	}
}

// TestOpenNew holds P17.1 of a new disk.
func TestOpenNew(t *testing.T) {
	d := disk.New()
	wantBlank(t, opened(t, d, nil))
	wantFile(t, d, nil)
	d.Arm(1)
	wantBlank(t, opened(t, d, nil)) // there is nothing to be done
	if !d.Up() {
		t.Fatal("an act on a new disk")
	}
}

// TestOpenFinds holds P17.1 of each beginning of a journal, from the first event to an end.
func TestOpenFinds(t *testing.T) {
	for n := range len(good()) + 1 {
		d := holding(written(good()[:n]...), nil)
		d.Arm(1)
		e := opened(t, d, echoing())
		if !d.Up() {
			t.Fatalf("%d events: an act, where all is whole and safe", n)
		}
		d.Arm(0)
		wantHistory(t, e, good()[:n]...)
		if n == 0 {
			wantBlank(t, e)
			continue
		}
		wantError(t, "Start", e.Start(taskMachine, taskInput, 5), api.ErrState)
		for at := n; at < len(good()); at++ {
			wantNotEnded(t, e, nil)
			steps(t, e, 0, 0, good()[at])
		}
		wantEnded(t, e, api.Report{Fine: true, Output: val("7")})
		wantFile(t, d, written(good()...))
	}
}

// TestOpenCutsOff holds P17.1: what isn't so, and all behind it, is cut off, whole frames too.
func TestOpenCutsOff(t *testing.T) {
	wait := `{"StartAt":"w","States":{"w":{"Type":"Wait","Seconds":3,"End":true}}}`
	for _, c := range []struct {
		what string
		good []api.Event
		bad  api.Event
	}{
		{"another kind first", nil, event(api.EvAsked)},
		{"a machine that is no text", nil, begun("{", taskInput, 5)},
		{"a machine that can't be read", nil, begun(`{"StartAt":"a"}`, taskInput, 5)},
		{"a machine that doesn't hang together", nil, begun(strings.Replace(taskMachine, `"Next":"b"`, `"Next":"c"`, 1), taskInput, 5)},
		{"an input that is no text", nil, begun(taskMachine, "x", 5)},
		{"an empty input", nil, begun(taskMachine, "", 5)},
		{"a second beginning", good()[:1], begun(taskMachine, taskInput, 5)},
		{"another kind", good()[:1], event(api.EvMoved)},
		{"another place", good()[:1], event(api.EvAsked, 1, 1, 0)},
		{"asked twice", good()[:2], event(api.EvAsked)},
		{"behind the end", good(), event(api.EvMoved)},
		{"a beginning behind the end", good(), begun(taskMachine, taskInput, 5)},
		{"a timer that fires ahead of its time", []api.Event{begun(wait, "1", 2), timed(api.EvSet, 8)}, timed(api.EvFired, 7)},
	} {
		for _, behind := range [][]api.Event{nil, good(), {event(api.EvMoved)}} {
			file := written(append(append(append([]api.Event{}, c.good...), c.bad), behind...)...)
			for _, tail := range []int{0, 1, len(file) - 1} {
				d := holding(file[:len(file)-tail], file[len(file)-tail:])
				e := opened(t, d, nil)
				wantHistory(t, e, c.good...)
				wantFile(t, d, written(c.good...))
				wantAlike(t, e, d)
				if len(c.good) == 0 {
					wantBlank(t, e)
					wantError(t, c.what, e.Start(taskMachine, "8", 5), nil)
					wantFile(t, d, written(begun(taskMachine, "8", 5)))
				}
			}
		}
	}
}

// TestOpenFuel holds P17.1 of the fuel of an EvBegun: one that may not be no record tells, so the book finds no event there.
func TestOpenFuel(t *testing.T) {
	for _, fuel := range []int{1, 2, api.MaxFuel} {
		e := opened(t, holding(written(begun(taskMachine, taskInput, fuel)), nil), nil)
		wantRoot(t, e, fuel, api.Frame{At: "a", Visit: 1, Attempt: 1, Left: fuel - 1, Raw: val("7"), Index: -1})
	}
	payload, err := record.Encode(begun(taskMachine, taskInput, 1))
	if err != nil {
		t.Fatal(err)
	}
	text := payload[:len(payload)-1]
	for _, fuel := range []string{"", "\x00", "\x81\x80\x04"} {
		whole, err := frame.Wrap([]byte(string(text) + fuel))
		if err != nil {
			t.Fatal(err)
		}
		d := holding(append(whole, written(good()...)...), nil)
		wantBlank(t, opened(t, d, nil))
		wantFile(t, d, nil)
	}
}

// TestOpenNoBook holds P17.1 of bytes that are no book, alone and behind one.
func TestOpenNoBook(t *testing.T) {
	whole := written(good()[:3]...)
	for _, rest := range []string{"x", "voyage: no journal at all", string(whole[:13]), string(whole[1:]), "\x00\x00\x00\x00"} {
		d := holding([]byte(rest), nil)
		wantBlank(t, opened(t, d, nil))
		wantFile(t, d, nil)
		for safe := range len(rest) + 1 {
			d := holding([]byte(string(whole)+rest[:safe]), []byte(rest[safe:]))
			wantHistory(t, opened(t, d, nil), good()[:3]...)
			wantFile(t, d, whole)
		}
	}
}

// TestOpenSyncs holds P17.1: what isn't safe is synced, in one act, and only then.
func TestOpenSyncs(t *testing.T) {
	file := written(good()...)
	for safe := range len(file) + 1 {
		d := holding(file[:safe], file[safe:])
		d.Arm(2)
		wantHistory(t, opened(t, d, nil), good()...)
		wantFile(t, d, file)
		d.Sync() // the first act behind none, the second one behind a Sync
		if d.Up() != (safe == len(file)) {
			t.Fatalf("%d of %d bytes were safe, and the power is on: %v", safe, len(file), d.Up())
		}
	}
}

// wholeOf are those of these events that stand whole at the beginning of a file.
func wholeOf(file []byte, events []api.Event) []api.Event {
	n := 0
	for n < len(events) && bytes.HasPrefix(file, written(events[:n+1]...)) {
		n++
	}
	return events[:n]
}

// TestOpenPower holds P17.1 where the power goes in an act of Open, which are the Cut of no frames, the Cut of events that can't be, and the Sync; and that the disk can be opened when the power is back.
func TestOpenPower(t *testing.T) {
	whole, bad := string(written(good()[:2]...)), string(written(event(api.EvAsked)))
	for _, c := range []struct {
		what, safe, tail string
		lengths          []int // of the file, when the power has gone in each act
	}{
		{"no frame, all safe", whole + "xyz", "", []int{len(whole) + 3}},
		{"no frame, behind unsafe events", "", whole + "xyz", []int{len(whole) + 3, len(whole)}},
		{"an event that can't be, all safe", whole + bad, "", []int{len(whole + bad)}},
		{"an event that can't be, in the tail", whole, bad, []int{len(whole + bad)}},
		{"unsafe events", whole[:1], whole[1:], []int{len(whole)}},
		{"all of it", "", whole + bad + "xyz", []int{len(whole+bad) + 3, len(whole + bad), len(whole)}},
	} {
		for act, length := range c.lengths {
			for keep := range length + 2 {
				d := holding([]byte(c.safe), []byte(c.tail))
				d.Arm(act + 1)
				notOpened(t, c.what, d, api.ErrDown)
				if d.Up() || len(d.Bytes()) != length || d.Synced() != min(len(c.safe), length) {
					t.Fatalf("%s: power %v, %d bytes, %d of them safe, not %d", c.what, d.Up(), len(d.Bytes()), d.Synced(), length)
				}
				notOpened(t, c.what+", the power still off", d, api.ErrDown)
				d.Crash(keep, -1, 0)
				want := wholeOf(d.Bytes(), good()[:2])
				wantHistory(t, opened(t, d, nil), want...)
				wantFile(t, d, written(want...))
			}
		}
		d := holding([]byte(c.safe), []byte(c.tail))
		d.Arm(len(c.lengths) + 1)
		wantHistory(t, opened(t, d, nil), good()[:2]...)
		if !d.Up() {
			t.Fatalf("%s: more than %d acts", c.what, len(c.lengths))
		}
	}
}

// TestOpenWithoutPower holds P17.1 of a disk whose power is off: where there is nothing to be done, there is an engine, which finds out when it adds something.
func TestOpenWithoutPower(t *testing.T) {
	off := func(safe, tail []byte) *disk.Disk {
		d := holding(safe, tail)
		d.Arm(1)
		d.Sync()
		return d
	}
	notOpened(t, "a tail", off(nil, written(good()...)), api.ErrDown)
	notOpened(t, "no book", off([]byte("xyz"), nil), api.ErrDown)

	e := opened(t, off(nil, nil), nil)
	wantNotEnded(t, e, nil)
	wantFault(t, "a fault comes first", e.Start(taskMachine, "x", 5), api.Fault{Err: api.ErrDue})
	wantError(t, "Start", e.Start(taskMachine, taskInput, 5), api.ErrDown)
	wantError(t, "Start of a dead engine", e.Start(taskMachine, "x", 0), api.ErrDown)
	wantBlank(t, e)
	wantNotEnded(t, e, api.ErrDown)

	tasks := echoing()
	e = opened(t, off(written(good()[:2]...), nil), tasks)
	wantTurns(t, e, 0, 1)
	noStep(t, e, 0, 0, api.ErrDown)
	if len(tasks.asked) != 1 {
		t.Fatalf("asked %d times", len(tasks.asked))
	}
	wantTurns(t, e, 0, 0)
	wantHistory(t, e, good()[:2]...)

	e = opened(t, off(written(good()...), nil), nil)
	wantEnded(t, e, api.Report{Fine: true, Output: val("7")}) // no act is needed for that
	wantEnded(t, e, api.Report{Fine: true, Output: val("7")})
	noStep(t, e, 0, 0, api.ErrState)
}

// TestOpenClock holds that the clock is 0 at Open, whatever times the journal tells.
func TestOpenClock(t *testing.T) {
	wait := `{"StartAt":"w","States":{"w":{"Type":"Wait","Seconds":3,"Next":"v"},"v":{"Type":"Wait","Seconds":4,"End":true}}}`
	file := written(begun(wait, "1", 2), timed(api.EvSet, 8))
	e := opened(t, holding(file, nil), nil)
	wantNext(t, e, 8)
	noStep(t, e, 0, 7, api.ErrState)
	steps(t, e, 0, 8, timed(api.EvFired, 8))
	e = opened(t, holding(append(file, written(timed(api.EvFired, 100))...), nil), nil)
	steps(t, e, 0, 0, timed(api.EvSet, 4))
}
