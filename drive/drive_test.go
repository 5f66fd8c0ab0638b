package drive_test

import (
	"testing"

	"voyage/api"
	"voyage/disk"
)

// TestExamples holds the chapter's examples, line by line.
func TestExamples(t *testing.T) {
	d, tasks := disk.New(), echoing()
	e := opened(t, d, tasks)
	noStep(t, e, 0, 0, api.ErrState)
	wantNotEnded(t, e, nil)

	wantError(t, "no fuel", e.Start(taskMachine, taskInput, 0), api.ErrArg)
	wantFault(t, "no input", e.Start(taskMachine, "x", 5), api.Fault{Err: api.ErrDue})
	wantFault(t, "no machine", e.Start("{}", taskInput, 5), api.Fault{Where: "$.StartAt", Err: api.ErrLacks})
	wantBlank(t, e)

	wantError(t, "Start", e.Start(taskMachine, taskInput, 5), nil)
	wantTurns(t, e, 0, 1)
	root := api.Frame{At: "a", Visit: 1, Attempt: 1, Left: 4, Raw: val("7"), Index: -1}
	wantRoot(t, e, 5, root)
	wantSynced(t, d, true)
	wantError(t, "Start again", e.Start(taskMachine, taskInput, 5), api.ErrState)

	steps(t, e, 0, 3, event(api.EvAsked))
	root.Phase = api.Asked
	wantRoot(t, e, 5, root)
	wantSynced(t, d, true)
	if len(tasks.asked) != 0 {
		t.Fatalf("asked ahead of its time: %v", tasks.asked)
	}

	steps(t, e, 5, 2, told(fine("7")))
	if want := []api.Key{{Visit: 1, Attempt: 1, Resource: "r", Input: val("7")}}; !same(tasks.asked, want) {
		t.Fatalf("asked: %+v, not %+v", tasks.asked, want)
	}
	wantRoot(t, e, 5, api.Frame{At: "b", Visit: 2, Attempt: 1, Left: 3, Raw: val("7"), Index: -1})
	wantSynced(t, d, false)

	steps(t, e, 0, 9, event(api.EvMoved))
	wantSynced(t, d, false)
	wantEnded(t, e, api.Report{Fine: true, Output: val("7")})
	wantSynced(t, d, true)
	noStep(t, e, 0, 9, api.ErrState)
	wantHistory(t, e, begun(taskMachine, taskInput, 5), event(api.EvAsked), told(fine("7")), event(api.EvMoved))
}

// allTypes has a state of each of the eight types; whether it ends well the input's ok tells.
const allTypes = `{"StartAt":"Pass","States":{
	"Pass":{"Type":"Pass","Result":{"l":[1,2]},"ResultPath":"$.p","Next":"Task"},
	"Task":{"Type":"Task","Resource":"r","ResultPath":"$.t","Next":"Wait","Retry":[{"ErrorEquals":["again"],"IntervalSeconds":3,"MaxAttempts":1}]},
	"Wait":{"Type":"Wait","Seconds":5,"Next":"Parallel"},
	"Parallel":{"Type":"Parallel","ResultPath":"$.b","Next":"Map","Branches":[
		{"StartAt":"x","States":{"x":{"Type":"Pass","Result":1,"End":true}}},
		{"StartAt":"y","States":{"y":{"Type":"Wait","Timestamp":"1970-01-01T00:00:30Z","OutputPath":"$.ok","End":true}}}]},
	"Map":{"Type":"Map","ItemsPath":"$.p.l","MaxConcurrency":1,"ResultPath":"$.m","Next":"Choice","Iterator":{"StartAt":"i","States":{"i":{"Type":"Succeed"}}}},
	"Choice":{"Type":"Choice","Choices":[{"Variable":"$.ok","BooleanEquals":true,"Next":"Succeed"}],"Default":"Fail"},
	"Succeed":{"Type":"Succeed","OutputPath":"$.b"},
	"Fail":{"Type":"Fail","Error":"e","Cause":"c"}}}`

// TestEachType holds P17.4 of states of each of the eight types, step by step, to a fine end and to an error.
func TestEachType(t *testing.T) {
	for _, ends := range []struct {
		input string
		want  api.Report
	}{
		{`{"ok":true}`, api.Report{Fine: true, Output: val("[1,true]")}},
		{`{"ok":false}`, api.Report{Error: "e", Cause: "c"}},
	} {
		tasks := &clerk{}
		tasks.does = func(k api.Key) api.Outcome {
			if k.Attempt == 1 {
				return wrong("again", "")
			}
			return fine("[9]")
		}
		e, d := started(t, tasks, allTypes, ends.input, 20)
		events := []api.Event{begun(allTypes, ends.input, 20)}
		step := func(pick int, now int64, turns int, synced bool, want api.Event) {
			t.Helper()
			wantNotEnded(t, e, nil)
			wantTurns(t, e, now, turns)
			was := d.Synced()
			steps(t, e, pick, now, want)
			wantSynced(t, d, synced)
			if !synced && d.Synced() != was {
				t.Fatalf("synced by %s", shownEvent(want))
			}
			events = append(events, want)
			wantHistory(t, e, events...)
			wantAlike(t, e, d)
		}
		step(0, 0, 1, false, event(api.EvMoved)) // Pass
		step(0, 1, 1, true, event(api.EvAsked))
		step(0, 2, 1, false, told(wrong("again", "")))
		step(0, 4, 1, true, timed(api.EvSet, 7)) // a retry
		wantNext(t, e, 7)
		noStep(t, e, 0, 6, api.ErrState)
		step(0, 8, 1, false, timed(api.EvFired, 8))
		step(0, 8, 1, true, event(api.EvAsked))
		step(0, 8, 1, false, told(fine("[9]")))
		step(0, 9, 1, true, timed(api.EvSet, 14)) // Wait
		step(0, 14, 1, false, timed(api.EvFired, 14))
		step(0, 14, 1, false, event(api.EvMoved)) // Parallel
		visit := []int{4, 1}
		step(1, 15, 2, true, timed(api.EvSet, 30, append(visit, 1)...))
		step(0, 15, 1, false, event(api.EvMoved, append(visit, 0)...))
		wantTurns(t, e, 29, 0)
		step(0, 31, 1, false, timed(api.EvFired, 31, append(visit, 1)...))
		step(0, 31, 1, false, event(api.EvJoined))
		step(0, 31, 1, false, event(api.EvMoved)) // Map, of whose parts one goes on at a time
		step(1, 31, 1, false, event(api.EvMoved, 5, 1, 0))
		step(1, 31, 1, false, event(api.EvMoved, 5, 1, 1))
		step(0, 31, 1, false, event(api.EvJoined))
		step(0, 31, 1, false, event(api.EvMoved)) // Choice
		step(0, 31, 1, false, event(api.EvMoved)) // Succeed, or Fail
		wantEnded(t, e, ends.want)
		wantSynced(t, d, true)
		noStep(t, e, 0, 99, api.ErrState)
		wantAlike(t, e, d)
		if len(tasks.asked) != 2 || tasks.asked[0].Visit != 2 || tasks.asked[0].Attempt != 1 || tasks.asked[1].Attempt != 2 {
			t.Fatalf("asked: %+v", tasks.asked)
		}
	}
}
