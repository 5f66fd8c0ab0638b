package drive_test

import (
	"math"
	"slices"
	"testing"

	"voyage/api"
	"voyage/disk"
	"voyage/drive"
)

// threeParts fans out into three tasks, one of another resource each.
const threeParts = `{"StartAt":"p","States":{"p":{"Type":"Parallel","End":true,"Branches":[
	{"StartAt":"a","States":{"a":{"Type":"Task","Resource":"ra","End":true}}},
	{"StartAt":"b","States":{"b":{"Type":"Task","Resource":"rb","End":true}}},
	{"StartAt":"c","States":{"c":{"Type":"Task","Resource":"rc","End":true}}}]}}}`

// waits is a machine that waits so many ticks.
func waits(seconds string) string {
	return `{"StartAt":"w","States":{"w":{"Type":"Wait","Seconds":` + seconds + `,"End":true}}}`
}

// TestPicks holds P17.4: the turn at the pick, modulo the number of turns; of a pick below 0 the first.
func TestPicks(t *testing.T) {
	for _, c := range []struct{ pick, part int }{
		{0, 0}, {1, 1}, {2, 2}, {3, 0}, {4, 1}, {5, 2}, {3000, 0}, {3002, 2}, {math.MaxInt, math.MaxInt % 3},
		{-1, 0}, {-2, 0}, {-3, 0}, {-4, 0}, {math.MinInt, 0}, {math.MinInt + 1, 0},
	} {
		e, _ := started(t, nil, threeParts, taskInput, 9)
		steps(t, e, c.pick, 0, event(api.EvMoved)) // a single turn
		wantTurns(t, e, 0, 3)
		steps(t, e, c.pick, 0, event(api.EvAsked, 1, 1, c.part))
	}
}

// TestPickIsTurn holds that picks count turns, not frames.
func TestPickIsTurn(t *testing.T) {
	machine := `{"StartAt":"m","States":{"m":{"Type":"Map","MaxConcurrency":2,"End":true,"Iterator":{"StartAt":"w","States":{"w":{"Type":"Wait","SecondsPath":"$","End":true}}}}}}`
	e, _ := started(t, nil, machine, "[5,2,7]", 9)
	steps(t, e, 0, 0, event(api.EvMoved))
	wantTurns(t, e, 0, 2)
	steps(t, e, 2, 0, timed(api.EvSet, 5, 1, 1, 0))
	steps(t, e, 1, 0, timed(api.EvSet, 2, 1, 1, 1))
	wantTurns(t, e, 1, 0)
	wantTurns(t, e, 2, 1)
	wantTurns(t, e, 5, 2)
	steps(t, e, 4, 3, timed(api.EvFired, 3, 1, 1, 1))
	steps(t, e, 1, 3, timed(api.EvSet, 10, 1, 1, 2))
	steps(t, e, 1, 20, timed(api.EvFired, 20, 1, 1, 2))
	steps(t, e, 1, 0, timed(api.EvFired, 20, 1, 1, 0)) // the clock stays
	steps(t, e, 9, 0, event(api.EvJoined))
	wantEnded(t, e, api.Report{Fine: true, Output: val("[5,2,7]")})
}

// TestClock holds P17.4: the clock goes on to now, and never back; R7 of times below 0 and above MaxTime.
func TestClock(t *testing.T) {
	for _, c := range []struct {
		times []int64 // of the moves ahead, and of the wait's
		want  int64
	}{
		{[]int64{0, 0}, 0}, {[]int64{3, 4}, 4}, {[]int64{4, 3}, 4}, {[]int64{9, -5}, 9}, {[]int64{-1, -2}, 0},
		{[]int64{-1, 2}, 2}, {[]int64{7, math.MinInt64}, 7}, {[]int64{math.MinInt64, 7}, 7},
		{[]int64{api.MaxTime - 10, 0}, api.MaxTime - 10}, {[]int64{api.MaxTime, 0}, api.MaxTime}, {[]int64{api.MaxTime + 1, 3}, api.MaxTime},
		{[]int64{0, math.MaxInt64}, api.MaxTime}, {[]int64{math.MaxInt64, 0}, api.MaxTime},
	} {
		e, _ := started(t, nil, `{"StartAt":"a","States":{"a":{"Type":"Pass","Next":"w"},"w":{"Type":"Wait","Seconds":10,"Next":"z"},"z":{"Type":"Succeed"}}}`, "1", 9)
		steps(t, e, 0, c.times[0], event(api.EvMoved))
		due := min(c.want+10, api.MaxTime)
		steps(t, e, 0, c.times[1], timed(api.EvSet, due))
		if due > c.want {
			wantNext(t, e, due)
			noStep(t, e, 0, due-1, api.ErrState)
		}
		wantTurns(t, e, math.MaxInt64, 1)
		steps(t, e, 0, math.MaxInt64, timed(api.EvFired, api.MaxTime))
		wantNext(t, e, -1)
	}
}

// TestClockOfRefused holds P17.4: the clock goes on where there is no turn, and stays where the run hasn't begun, or has ended; Turns and Ended don't tell it anything.
func TestClockOfRefused(t *testing.T) {
	e := opened(t, disk.New(), nil)
	noStep(t, e, 0, 50, api.ErrState)
	wantError(t, "Start", e.Start(waits("10"), "1", 9), nil)
	wantTurns(t, e, 60, 1)
	wantNotEnded(t, e, nil)
	steps(t, e, 0, 2, timed(api.EvSet, 12))
	wantTurns(t, e, 100, 1)
	wantTurns(t, e, 11, 0)
	noStep(t, e, 7, 5, api.ErrState)
	noStep(t, e, 0, 11, api.ErrState)
	noStep(t, e, -1, 3, api.ErrState)
	wantNext(t, e, 12)
	wantTurns(t, e, 12, 1)
	steps(t, e, 0, 12, timed(api.EvFired, 12))

	e, _ = started(t, nil, `{"StartAt":"p","States":{"p":{"Type":"Parallel","End":true,"Branches":[
		{"StartAt":"w","States":{"w":{"Type":"Wait","Seconds":10,"Next":"v"},"v":{"Type":"Wait","Seconds":5,"End":true}}}]}}}`, "1", 9)
	steps(t, e, 0, 0, event(api.EvMoved))
	steps(t, e, 0, 0, timed(api.EvSet, 10, 1, 1, 0))
	noStep(t, e, 0, 9, api.ErrState) // the clock is 9 now
	wantTurns(t, e, 3, 0)
	steps(t, e, 0, 10, timed(api.EvFired, 10, 1, 1, 0))
	steps(t, e, 0, 4, timed(api.EvSet, 15, 1, 1, 0))
	noStep(t, e, 0, 14, api.ErrState)
	wantNext(t, e, 15)
	noStep(t, e, 0, math.MinInt64, api.ErrState)
	wantNext(t, e, 15)
}

// TestClockOfNoTurn holds that a Step that finds no turn has told the clock its time: what a later one at a lesser time sets is reckoned from there.
func TestClockOfNoTurn(t *testing.T) {
	machine := `{"StartAt":"a","States":{"a":{"Type":"Wait","Seconds":10,"Next":"b"},"b":{"Type":"Wait","Seconds":5,"End":true}}}`
	d := disk.New()
	e := opened(t, d, nil)
	wantError(t, "Start", e.Start(machine, "1", 9), nil)
	steps(t, e, 0, 0, timed(api.EvSet, 10))
	noStep(t, e, 0, 9, api.ErrState)
	steps(t, e, 0, 30, timed(api.EvFired, 30))
	d.Arm(1)
	noStep(t, e, 0, 40, api.ErrDown)
	d.Crash(0, -1, 0)
	e = opened(t, d, nil) // the clock is 0 again, and the timer that was set is set
	wantNext(t, e, 10)
	noStep(t, e, 0, 4, api.ErrState)
	steps(t, e, 0, 10, timed(api.EvFired, 10))
	steps(t, e, 0, 0, timed(api.EvSet, 15))
}

// TestStepRefused holds P17.4 where the run hasn't begun, has ended, or the engine is dead.
func TestStepRefused(t *testing.T) {
	e := opened(t, disk.New(), nil)
	noStep(t, e, 0, 0, api.ErrState)
	noStep(t, e, -7, math.MaxInt64, api.ErrState)
	for _, machine := range []string{`{"StartAt":"z","States":{"z":{"Type":"Succeed"}}}`, `{"StartAt":"z","States":{"z":{"Type":"Fail"}}}`} {
		e, d := started(t, nil, machine, "1", 1)
		steps(t, e, 0, 0, event(api.EvMoved))
		file := d.Bytes()
		d.Arm(1)
		noStep(t, e, 0, 0, api.ErrState)
		noStep(t, e, 1, math.MaxInt64, api.ErrState)
		if !d.Up() || len(d.Bytes()) != len(file) {
			t.Fatal("an act of a run that has ended")
		}
		wantNotEnded(t, e, api.ErrDown)
		noStep(t, e, 0, 0, api.ErrDown) // ahead of ErrState
	}
}

// moment is a run of which the next event is of a kind.
type moment struct {
	what    string
	machine string
	input   string
	ahead   int // steps
	want    api.Event
	asks    bool
}

// moments has one for each kind of event, and for each reason to have it.
func moments() []moment {
	retried := `{"StartAt":"a","States":{"a":{"Type":"Task","Resource":"r","Retry":[{"ErrorEquals":["States.ALL"],"IntervalSeconds":4}],"End":true}}}`
	fan := `{"StartAt":"p","States":{"p":{"Type":"Parallel","End":true,"Branches":[{"StartAt":"a","States":{"a":{"Type":"Pass","End":true}}}]}}}`
	return []moment{
		{"a Pass", `{"StartAt":"a","States":{"a":{"Type":"Pass","End":true}}}`, "1", 0, event(api.EvMoved), false},
		{"a task that is to be asked", taskMachine, taskInput, 0, event(api.EvAsked), false},
		{"a task that is asked", taskMachine, taskInput, 1, told(wrong("e", "c")), true},
		{"a Wait", waits("3"), "1", 0, timed(api.EvSet, 7), false},
		{"a Wait that is over", waits("0"), "1", 1, timed(api.EvFired, 4), false},
		{"a retry", retried, "1", 2, timed(api.EvSet, 8), false},
		{"a fan-out", fan, "1", 0, event(api.EvMoved), false},
		{"a part", fan, "1", 1, event(api.EvMoved, 1, 1, 0), false},
		{"a join", fan, "1", 2, event(api.EvJoined), false},
	}
}

// come is the engine of a run as far as a moment; what stands on the disk is safe.
func (m moment) come(t *testing.T) (*drive.Engine, *disk.Disk, *clerk) {
	t.Helper()
	tasks := failing("e", "c")
	e, d := started(t, tasks, m.machine, m.input, 9)
	for range m.ahead {
		if _, err := e.Step(0, 4); err != nil {
			t.Fatal(err)
		}
	}
	wantError(t, "Sync", d.Sync(), nil)
	tasks.asked = nil
	return e, d, tasks
}

// isAhead tells whether a kind's events are synced: P17.4.
func isAhead(kind int) bool { return kind == api.EvAsked || kind == api.EvSet }

// TestStepActs holds P17.4 of each kind of event: it is added, and synced if it is one that must be, and there is no other act.
func TestStepActs(t *testing.T) {
	for _, m := range moments() {
		e, d, tasks := m.come(t)
		file, history := d.Bytes(), e.History()
		acts := 1
		if isAhead(m.want.Kind) {
			acts = 2
		}
		d.Arm(acts + 1)
		steps(t, e, 0, 4, m.want)
		if want := len(file) + len(written(m.want)); len(d.Bytes()) != want || isAhead(m.want.Kind) != (d.Synced() == want) {
			t.Fatalf("%s: %d bytes, %d of them safe; not %d", m.what, len(d.Bytes()), d.Synced(), want)
		}
		if d.Synced() < len(file) || (len(tasks.asked) == 1) != m.asks {
			t.Fatalf("%s: %d bytes are safe; asked %d times", m.what, d.Synced(), len(tasks.asked))
		}
		wantHistory(t, e, append(history, m.want)...)
		wantAlike(t, e, d)
		wantError(t, "one act more", d.Sync(), api.ErrDown)
	}
}

// TestStepPower holds P17.4 where the power goes in the Add and in the Sync of each kind of event: the engine is dead, the config and History stay; what is found again are the events ahead of it, and itself, if it stayed whole.
func TestStepPower(t *testing.T) {
	for _, m := range moments() {
		acts := 1
		if isAhead(m.want.Kind) {
			acts = 2
		}
		whole := len(written(m.want))
		for act := 1; act <= acts; act++ {
			for keep := range whole + 2 {
				e, d, tasks := m.come(t)
				config, history := e.Config(), e.History()
				d.Arm(act)
				noStep(t, e, 0, 4, api.ErrDown)
				if !same(e.Config(), config) {
					t.Fatalf("%s: the config is another: %s", m.what, shown(e.Config()))
				}
				if (len(tasks.asked) == 1) != m.asks {
					t.Fatalf("%s: asked %d times", m.what, len(tasks.asked))
				}
				wantHistory(t, e, history...)
				wantDead(t, e)
				d.Crash(keep, -1, 0)
				wantDead(t, e)
				if keep >= whole {
					history = append(history, m.want)
				}
				again := opened(t, d, nil)
				wantHistory(t, again, history...)
				wantAlike(t, again, d)
				if (len(tasks.asked) == 1) != m.asks {
					t.Fatalf("%s: asked by others than Step", m.what)
				}
			}
		}
	}
}

// wantDead wants that an engine does nothing any more.
func wantDead(t *testing.T, e *drive.Engine) {
	t.Helper()
	noStep(t, e, 0, 4, api.ErrDown)
	noStep(t, e, 3, math.MaxInt64, api.ErrDown)
	wantError(t, "Start of a dead engine", e.Start(taskMachine, taskInput, 5), api.ErrDown)
	wantTurns(t, e, math.MaxInt64, 0)
	wantNext(t, e, -1)
	wantNotEnded(t, e, api.ErrDown)
}

// TestDeadStays holds that an engine stays dead when the power is back; and that the power's going itself is nothing to it, till an act of its own finds out.
func TestDeadStays(t *testing.T) {
	e, d := started(t, nil, threeParts, taskInput, 9)
	steps(t, e, 0, 0, event(api.EvMoved))
	d.Arm(1)
	wantError(t, "Sync", d.Sync(), api.ErrDown) // not the engine's act
	wantTurns(t, e, 0, 3)
	wantNotEnded(t, e, nil)
	wantError(t, "Start", e.Start(threeParts, taskInput, 9), api.ErrState)
	noStep(t, e, 0, 0, api.ErrDown)
	d.Crash(100, -1, 0)
	wantDead(t, e)
	wantHistory(t, e, begun(threeParts, taskInput, 9), event(api.EvMoved))
}

// TestAsked holds P17.4 and P17.5 of how often tasks are asked, when, and for what key: at a Step of a frame that is Asked, once, when its EvAsked is safe.
func TestAsked(t *testing.T) {
	machine := `{"StartAt":"p","States":{"p":{"Type":"Map","ItemsPath":"$.l","Parameters":{"v.$":"$$.Map.Item.Value"},"Next":"t","Iterator":
		{"StartAt":"i","States":{"i":{"Type":"Task","Resource":"part","InputPath":"$.v","Retry":[{"ErrorEquals":["e"],"IntervalSeconds":1,"BackoffRate":1}],"End":true}}}},
		"t":{"Type":"Task","Resource":"whole","End":true}}}`
	d := disk.New()
	tasks := &clerk{}
	tasks.does = func(k api.Key) api.Outcome {
		wantAskedSafe(t, d, k)
		if k.Resource == "part" && k.Attempt < 3 && isSeven(k.Input) {
			return wrong("e", "")
		}
		return api.Outcome{Fine: true, Value: k.Input}
	}
	e := opened(t, d, tasks)
	wantError(t, "Start", e.Start(machine, `{"l":[7,8]}`, 9), nil)
	steps(t, e, 0, 0, event(api.EvMoved))
	asks := func(pick int, kind int, now int64, keys ...api.Key) {
		t.Helper()
		tasks.asked = nil
		e.Config()
		e.History()
		e.Turns(now)
		e.Next()
		e.Ended()
		if len(tasks.asked) != 0 {
			t.Fatal("asked by others than Step")
		}
		if x, err := e.Step(pick, now); err != nil || x.Kind != kind {
			t.Fatalf("%s, %v", shownEvent(x), err)
		}
		if !same(tasks.asked, keys) {
			t.Fatalf("asked: %+v, not %+v", tasks.asked, keys)
		}
	}
	part := func(i, attempt int, input string) api.Key {
		return api.Key{Place: []int{1, 1, i}, Visit: 1, Attempt: attempt, Resource: "part", Input: val(input)}
	}
	asks(0, api.EvAsked, 0)
	asks(1, api.EvAsked, 0)
	asks(1, api.EvTold, 0, part(1, 1, "8"))
	for attempt := 1; attempt < 3; attempt++ {
		now := int64(10 * attempt)
		asks(0, api.EvTold, now, part(0, attempt, "7"))
		asks(0, api.EvSet, now)
		asks(0, api.EvFired, now+1)
		asks(0, api.EvAsked, now+1)
	}
	asks(0, api.EvTold, 30, part(0, 3, "7"))
	asks(0, api.EvJoined, 30)
	asks(0, api.EvAsked, 30)
	asks(0, api.EvTold, 30, api.Key{Visit: 2, Attempt: 1, Resource: "whole", Input: val("[7,8]")})
	wantEnded(t, e, api.Report{Fine: true, Output: val("[7,8]")})
}

// wantAskedSafe wants that what is safe on a disk tells that a key is asked: P17.5.
func wantAskedSafe(t *testing.T, d *disk.Disk, k api.Key) {
	t.Helper()
	safe := opened(t, holding(d.Bytes()[:d.Synced()], nil), nil).Config()
	for _, f := range safe.Frames {
		if slices.Equal(f.Place, k.Place) && f.Visit == k.Visit && f.Attempt == k.Attempt && f.Phase == api.Asked {
			return
		}
	}
	t.Fatalf("%+v is asked; safe is %s", k, shown(safe))
}

func isSeven(v api.Value) bool { return same(v, val("7")) }

// TestAskedAgain holds P17.10: an attempt whose result isn't safe is asked again by a new engine, one whose result is isn't; opening asks nobody anything.
func TestAskedAgain(t *testing.T) {
	for _, keep := range []int{0, 1000} {
		tasks := echoing()
		e, d := started(t, tasks, taskMachine, taskInput, 5)
		steps(t, e, 0, 0, event(api.EvAsked))
		steps(t, e, 0, 0, told(fine("7")))
		d.Crash(keep, -1, 0)
		for range 3 {
			e = opened(t, d, tasks)
		}
		if len(tasks.asked) != 1 {
			t.Fatalf("asked %d times", len(tasks.asked))
		}
		if keep == 0 {
			steps(t, e, 0, 0, told(fine("7")))
		}
		steps(t, e, 0, 0, event(api.EvMoved))
		wantEnded(t, e, api.Report{Fine: true, Output: val("7")})
		want := 1
		if keep == 0 {
			want = 2
		}
		if len(tasks.asked) != want || !same(tasks.asked[0], tasks.asked[want-1]) {
			t.Fatalf("asked: %+v", tasks.asked)
		}
	}
}
