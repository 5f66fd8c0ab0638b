package drive_test

import (
	"math"
	"testing"

	"voyage/api"
	"voyage/disk"
)

// timers is a machine whose three parts wait 4, 9 and 9 ticks.
const timers = `{"StartAt":"p","States":{"p":{"Type":"Parallel","End":true,"Branches":[
	{"StartAt":"a","States":{"a":{"Type":"Wait","Seconds":9,"End":true}}},
	{"StartAt":"b","States":{"b":{"Type":"Wait","Seconds":4,"Next":"c"},"c":{"Type":"Wait","Seconds":9,"End":true}}},
	{"StartAt":"d","States":{"d":{"Type":"Wait","Seconds":9,"End":true}}}]}}}`

// TestNext holds P17.6: the least Due above the clock, as the clock goes on.
func TestNext(t *testing.T) {
	e, d := started(t, nil, timers, "1", 9)
	wantNext(t, e, -1)
	steps(t, e, 0, 0, event(api.EvMoved))
	wantNext(t, e, -1)
	steps(t, e, 0, 0, timed(api.EvSet, 9, 1, 1, 0))
	wantNext(t, e, 9)
	steps(t, e, 0, 0, timed(api.EvSet, 4, 1, 1, 1))
	wantNext(t, e, 4)
	steps(t, e, 0, 3, timed(api.EvSet, 12, 1, 1, 2))
	wantNext(t, e, 4)
	wantTurns(t, e, 50, 3)
	wantNext(t, e, 4) // Turns tells the clock nothing
	noStep(t, e, 0, 3, api.ErrState)
	wantNext(t, e, 4)
	steps(t, e, 0, 4, timed(api.EvFired, 4, 1, 1, 1))
	wantNext(t, e, 9)
	steps(t, e, 0, 9, timed(api.EvFired, 9, 1, 1, 0)) // the clock is 9: c is to be set, and it isn't 9 that is to come
	wantNext(t, e, 12)
	steps(t, e, 0, 0, timed(api.EvSet, 18, 1, 1, 1))
	wantNext(t, e, 12)

	again := opened(t, copied(d), nil)
	wantNext(t, again, 12)
	noStep(t, again, 0, 11, api.ErrState)
	steps(t, again, 0, 12, timed(api.EvFired, 12, 1, 1, 2))
	wantNext(t, again, 18)
	d.Arm(1)
	noStep(t, e, 0, 40, api.ErrDown)
	wantNext(t, e, -1)
}

// TestNextBehindClock holds P17.6 of a deadline that the clock has come to, though its timer hasn't fired yet: it isn't to come.
func TestNextBehindClock(t *testing.T) {
	e, _ := started(t, nil, timers, "1", 9)
	steps(t, e, 0, 0, event(api.EvMoved))
	steps(t, e, 0, 0, timed(api.EvSet, 9, 1, 1, 0))
	steps(t, e, 0, 0, timed(api.EvSet, 4, 1, 1, 1))
	wantNext(t, e, 4)
	steps(t, e, 1, 4, timed(api.EvSet, 13, 1, 1, 2)) // the turn of 4's timer isn't picked
	wantNext(t, e, 9)
	steps(t, e, 0, 3, timed(api.EvFired, 4, 1, 1, 1))
}

// TestTurns holds P17.6: how many turns there would be, at times that the clock doesn't go back to.
func TestTurns(t *testing.T) {
	e, _ := started(t, nil, timers, "1", 9)
	wantTurns(t, e, 0, 1)
	wantTurns(t, e, math.MinInt64, 1)
	steps(t, e, 0, 0, event(api.EvMoved))
	wantTurns(t, e, 0, 3)
	for _, want := range []api.Event{timed(api.EvSet, 9, 1, 1, 0), timed(api.EvSet, 4, 1, 1, 1), timed(api.EvSet, 9, 1, 1, 2)} {
		steps(t, e, 0, 0, want)
	}
	for now, want := range map[int64]int{-1: 0, 0: 0, 3: 0, 4: 1, 8: 1, 9: 3, math.MaxInt64: 3, math.MinInt64: 0} {
		wantTurns(t, e, now, want)
	}
	noStep(t, e, 0, 3, api.ErrState)
	steps(t, e, 0, 5, timed(api.EvFired, 5, 1, 1, 1))
	for now, want := range map[int64]int{-1: 1, 4: 1, 5: 1, 8: 1, 9: 3} {
		wantTurns(t, e, now, want)
	}
	steps(t, e, 1, 20, timed(api.EvSet, 29, 1, 1, 1))
}

// TestTurnsAtClock holds P17.6: at times behind the clock the clock counts.
func TestTurnsAtClock(t *testing.T) {
	e, _ := started(t, nil, timers, "1", 9)
	steps(t, e, 0, 0, event(api.EvMoved))
	steps(t, e, 0, 0, timed(api.EvSet, 9, 1, 1, 0))
	steps(t, e, 1, 12, timed(api.EvSet, 16, 1, 1, 1))
	for _, now := range []int64{math.MinInt64, 0, 8, 12, 15} {
		wantTurns(t, e, now, 2) // the first timer is over at 12
	}
	wantTurns(t, e, 16, 2+1)
}

// TestLook holds P17.6 to P17.8 of an engine that is new, started, ended and dead.
func TestLook(t *testing.T) {
	d := disk.New()
	e := opened(t, d, nil)
	wantBlank(t, e)
	wantNotEnded(t, e, nil)
	wantError(t, "Start", e.Start(waits("3"), "1", 9), nil)
	wantNotEnded(t, e, nil)
	frame := api.Frame{At: "w", Visit: 1, Attempt: 1, Left: 8, Raw: val("1"), Index: -1}
	wantRoot(t, e, 9, frame)
	steps(t, e, 0, 2, timed(api.EvSet, 5))
	frame.Phase, frame.Due = api.Waiting, 5
	wantRoot(t, e, 9, frame)
	wantNext(t, e, 5)
	wantNotEnded(t, e, nil)
	steps(t, e, 0, 5, timed(api.EvFired, 5))
	frame.Phase, frame.Due, frame.Result = api.Done, 0, val("1")
	events := []api.Event{begun(waits("3"), "1", 9), timed(api.EvSet, 5), timed(api.EvFired, 5)}
	for range 2 {
		wantRoot(t, e, 9, frame)
		wantTurns(t, e, api.MaxTime, 0)
		wantNext(t, e, -1)
		wantHistory(t, e, events...)
	}
	wantSynced(t, d, false) // looking makes nothing safe but Ended
	wantError(t, "Start", e.Start(waits("3"), "1", 9), api.ErrState)
	d.Arm(1)
	wantNotEnded(t, e, api.ErrDown)
	wantDead(t, e)
	wantRoot(t, e, 9, frame)
	wantHistory(t, e, events...)
}

// TestEnded holds P17.8: what is told of an end is safe; it is synced in one act, and only if it isn't yet.
func TestEnded(t *testing.T) {
	for machine, want := range map[string]api.Report{
		`{"StartAt":"z","States":{"z":{"Type":"Succeed"}}}`:                                             {Fine: true, Output: val(`{"a":[1]}`)},
		`{"StartAt":"z","States":{"z":{"Type":"Pass","Result":null,"End":true}}}`:                       {Fine: true, Output: val("null")},
		`{"StartAt":"z","States":{"z":{"Type":"Fail"}}}`:                                                {},
		`{"StartAt":"z","States":{"z":{"Type":"Fail","Error":"e"}}}`:                                    {Error: "e"},
		`{"StartAt":"z","States":{"z":{"Type":"Fail","Cause":"c"}}}`:                                    {Cause: "c"},
		`{"StartAt":"z","States":{"z":{"Type":"Pass","InputPath":"$.gone","End":true}}}`:                {Error: "States.Runtime"},
		`{"StartAt":"y","States":{"y":{"Type":"Pass","Next":"z"},"z":{"Type":"Succeed"}}}`:              {Error: "States.OutOfFuel"},
		`{"StartAt":"z","States":{"z":{"Type":"Pass","OutputPath":"$.a","End":true}}}`:                  {Fine: true, Output: val("[1]")},
		`{"StartAt":"z","States":{"z":{"Type":"Pass","Parameters":{"b":[2]},"End":true}}}`:              {Fine: true, Output: val(`{"b":[2]}`)},
		`{"StartAt":"z","States":{"z":{"Type":"Wait","SecondsPath":"$.a","End":true}}}`:                 {Error: "States.Runtime"},
		`{"StartAt":"z","States":{"z":{"Type":"Pass","Result":"x","ResultPath":"$.a.b.c","End":true}}}`: {Error: "States.ResultPathMatchFailure"},
	} {
		e, d := started(t, nil, machine, `{"a":[1]}`, 1)
		wantNotEnded(t, e, nil)
		steps(t, e, 0, 0, event(api.EvMoved))
		wantSynced(t, d, false)
		d.Arm(2)
		wantEnded(t, e, want)
		wantSynced(t, d, true)
		for range 3 {
			wantEnded(t, e, want)
		}
		if !d.Up() {
			t.Fatal("a second act, where all is safe")
		}
		wantError(t, "the second act", d.Sync(), api.ErrDown)
		wantEnded(t, e, want) // no act is needed, so nothing is known of the power
		again := opened(t, copied(d), nil)
		wantEnded(t, again, want)
	}
}

// TestEndedPower holds P17.8 where the power goes in the Sync: the engine is dead; what stays of the end a new one finds.
func TestEndedPower(t *testing.T) {
	file := written(good()...)
	safe := len(written(good()[:2]...))
	for keep := range len(file) - safe + 2 {
		e, d := started(t, echoing(), taskMachine, taskInput, 5)
		for _, want := range good()[1:] {
			steps(t, e, 0, 0, want)
		}
		config := e.Config()
		d.Arm(1)
		wantNotEnded(t, e, api.ErrDown)
		wantDead(t, e)
		if !same(e.Config(), config) {
			t.Fatalf("the config is another: %s", shown(e.Config()))
		}
		wantHistory(t, e, good()...)
		d.Crash(keep, -1, 0)
		wantDead(t, e)
		want := wholeOf(d.Bytes(), good())
		again := opened(t, d, echoing())
		wantHistory(t, again, want...)
		for _, x := range good()[len(want):] {
			wantNotEnded(t, again, nil)
			steps(t, again, 0, 0, x)
		}
		wantEnded(t, again, api.Report{Fine: true, Output: val("7")})
	}
}

// TestEndedOfOpened holds P17.8 of a run that had ended when it was found: all is safe then.
func TestEndedOfOpened(t *testing.T) {
	d := holding(nil, written(good()...))
	e := opened(t, d, nil)
	d.Arm(1)
	wantEnded(t, e, api.Report{Fine: true, Output: val("7")})
	if !d.Up() {
		t.Fatal("an act, where all is safe")
	}
}

// TestTwoRuns holds R4: two runs of one machine on two disks know nothing of one another, though one does the tasks of both.
func TestTwoRuns(t *testing.T) {
	tasks := echoing()
	one, first := started(t, tasks, taskMachine, "1", 5)
	two, second := started(t, tasks, taskMachine, "2", 6)
	steps(t, one, 0, 9, event(api.EvAsked))
	wantHistory(t, two, begun(taskMachine, "2", 6))
	steps(t, two, 0, 3, event(api.EvAsked))
	steps(t, two, 0, 3, told(fine("2")))
	steps(t, one, 0, 3, told(fine("1")))
	first.Arm(1)
	noStep(t, one, 0, 0, api.ErrDown)
	steps(t, two, 0, 0, event(api.EvMoved))
	wantEnded(t, two, api.Report{Fine: true, Output: val("2")})
	wantDead(t, one)
	wantFile(t, second, written(begun(taskMachine, "2", 6), event(api.EvAsked), told(fine("2")), event(api.EvMoved)))

	slow, _ := started(t, nil, waits("5"), "1", 5)
	fast, _ := started(t, nil, waits("5"), "1", 5)
	steps(t, fast, 0, 100, timed(api.EvSet, 105))
	steps(t, slow, 0, 0, timed(api.EvSet, 5))
}
