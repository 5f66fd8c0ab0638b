package world_test

import (
	"math"
	"testing"

	"voyage/api"
	"voyage/world"
)

// three goes on in three parts, of one step each.
const three = `{"StartAt":"p","States":{"p":{"Type":"Parallel","End":true,"Branches":[
	{"StartAt":"x","States":{"x":{"Type":"Pass","End":true}}},
	{"StartAt":"x","States":{"x":{"Type":"Pass","End":true}}},
	{"StartAt":"x","States":{"x":{"Type":"Pass","End":true}}}]}}}`

// short ends behind one step.
const short = `{"StartAt":"a","States":{"a":{"Type":"Succeed"}}}`

// waits ends behind two.
const waits = `{"StartAt":"a","States":{"a":{"Type":"Wait","Seconds":5,"End":true}}}`

// TestNoActs holds P18.2 of no acts: no replies, and nothing is done.
func TestNoActs(t *testing.T) {
	w := started(t, nil, short, "1", 1)
	if got := w.Do(); len(got) != 0 {
		t.Fatalf("replies: %+v", got)
	}
	wantHistory(t, w, begun(short, "1", 1))
	wantDisk(t, w, 1, begun(short, "1", 1))
	wantNow(t, w, 0)
}

// TestManyActs holds P18.2: acts of one Do come one behind the other, with a reply each, in order.
func TestManyActs(t *testing.T) {
	w := world.New(retriedAnswers())
	got := w.Do(steps(0), starts(retried, "1", 9), steps(0), api.Act{Kind: 9}, steps(0), ticks(5), steps(0), ticks(-1), ends(), goes(9), ends())
	want := []api.Reply{fails(api.ErrState), nothing(), tells(asked()), fails(api.ErrArg), tells(told(wrong("E", ""))), nothing(), tells(timed(api.EvSet, 8)), fails(api.ErrArg), nothing(), tells(told(fine("5"))), fineEnd("5")}
	if len(got) != len(want) {
		t.Fatalf("%d replies, not %d", len(got), len(want))
	}
	for i := range want {
		if !same(got[i], want[i]) {
			t.Fatalf("reply %d: %s\nwant %s", i, shownReply(got[i]), shownReply(want[i]))
		}
	}
	wantNow(t, w, 8)
}

// TestOtherKinds holds P18.2 of kinds that are none: nothing is done, whatever else the act tells, with an engine, with a dead one and with none.
func TestOtherKinds(t *testing.T) {
	kinds := []int{0, 8, -1, 9, 255, math.MaxInt, math.MinInt}
	refuse := func(w *world.World) {
		t.Helper()
		was, synced := w.Bytes()
		now, events := w.Now(), w.History()
		for _, kind := range kinds {
			play(t, w, line{api.Act{Kind: kind, N: 1, Fuel: 5, Machine: short, Input: "1", Keep: 1, At: 1, Turn: 1}, fails(api.ErrArg)})
		}
		wantBytes(t, w, synced, was)
		wantNow(t, w, now)
		wantHistory(t, w, events...)
	}
	refuse(world.New(nil))
	w := started(t, retriedAnswers(), retried, "1", 9)
	refuse(w)
	play(t, w, line{goes(2), tells(told(wrong("E", "")))})
	refuse(w)
	play(t, w, line{arms(1), nothing()}, line{steps(0), fails(api.ErrDown)})
	refuse(w)
	play(t, w, line{restartsArmed(1, 1, -1, 0), fails(api.ErrDown)})
	refuse(w)
	play(t, w, line{restarts(0, -1, 0), nothing()}, line{goes(9), tells(told(fine("5")))})
	refuse(w)
}

// TestStart holds act 1: what refuses a start is told as the engine tells it, and nothing has begun then.
func TestStart(t *testing.T) {
	w := world.New(nil)
	play(t, w,
		line{starts(short, "1", 0), fails(api.ErrArg)},
		line{starts(short, "1", -1), fails(api.ErrArg)},
		line{starts(short, "1", api.MaxFuel+1), fails(api.ErrArg)},
		line{starts("", "1", 5), fails(&api.Fault{Err: api.ErrDue})},
		line{starts(short, "x", 5), fails(&api.Fault{Err: api.ErrDue})},
		line{starts(short, "[1,", 5), fails(&api.Fault{At: 3, Err: api.ErrDue})},
		line{starts("{}", "1", 5), fails(&api.Fault{Where: "$.StartAt", Err: api.ErrLacks})},
		line{starts(`{"StartAt":"a","States":{"a":{"Type":"Pass","Next":"b"}}}`, "1", 5), fails(&api.Fault{Where: "$.States.a.Next", Err: api.ErrTarget})})
	wantBlank(t, w)
	wantBytes(t, w, 0, nil)
	// Fields that kind 1 doesn't name don't count.
	play(t, w,
		line{api.Act{Kind: 1, Machine: short, Input: " 1 ", Fuel: api.MaxFuel, N: -7, Keep: 9, At: 3, Turn: 1}, nothing()},
		line{starts(short, "1", 5), fails(api.ErrState)},
		line{starts("", "", 0), fails(api.ErrState)})
	wantHistory(t, w, begun(short, " 1 ", api.MaxFuel))
	wantFrames(t, w, api.MaxFuel, api.Frame{At: "a", Visit: 1, Attempt: 1, Left: api.MaxFuel - 1, Raw: val("1"), Index: -1})
	wantDisk(t, w, 1, begun(short, " 1 ", api.MaxFuel))
}

// TestStepPicks holds act 2: which turn is taken N tells, modulo their number; the first, if it is below 0 or no int.
func TestStepPicks(t *testing.T) {
	largest := 0
	if math.MaxInt == math.MaxInt64 {
		largest = math.MaxInt % 3
	}
	for _, x := range []struct {
		n    int64
		part int
	}{{0, 0}, {1, 1}, {2, 2}, {3, 0}, {4, 1}, {-1, 0}, {-2, 0}, {math.MinInt64, 0}, {math.MinInt32, 0}, {math.MinInt32 - 1, 0}, {math.MaxInt32, 1}, {math.MaxInt64, largest}} {
		w := started(t, nil, three, "1", 5)
		play(t, w,
			line{steps(x.n), tells(moved())},
			line{api.Act{Kind: 2, N: x.n, Fuel: 3, Machine: "x", Input: "y", Keep: 4, At: 5, Turn: 6}, tells(moved(1, 1, x.part))})
	}
}

// TestStepTime holds act 2: it is made at the time, which is never told by the act.
func TestStepTime(t *testing.T) {
	w := started(t, nil, waits, "1", 5)
	play(t, w,
		line{ticks(7), nothing()},
		line{steps(99), tells(timed(api.EvSet, 12))},
		line{steps(99), fails(api.ErrState)},
		line{ticks(4), nothing()},
		line{steps(0), fails(api.ErrState)},
		line{ticks(2), nothing()},
		line{steps(0), tells(timed(api.EvFired, 13))})
}

// TestTicks holds act 3: what N may be, and that the time stops at MaxTime.
func TestTicks(t *testing.T) {
	w := world.New(nil)
	refuse := func(now int64) {
		t.Helper()
		for _, n := range []int64{-1, -2, math.MinInt64, api.MaxTime + 1, api.MaxTime + 2, math.MaxInt64} {
			play(t, w, line{ticks(n), fails(api.ErrArg)})
			wantNow(t, w, now)
		}
	}
	refuse(0)
	for _, x := range []struct{ n, now int64 }{{0, 0}, {1, 1}, {0, 1}, {5, 6}, {api.MaxTime - 8, api.MaxTime - 2}, {1, api.MaxTime - 1}, {0, api.MaxTime - 1}, {1, api.MaxTime}, {0, api.MaxTime}, {1, api.MaxTime}, {api.MaxTime - 1, api.MaxTime}, {api.MaxTime, api.MaxTime}} {
		play(t, w, line{api.Act{Kind: 3, N: x.n, Fuel: 3, Machine: short, Input: "1", Keep: 4, At: 5, Turn: 6}, nothing()})
		wantNow(t, w, x.now)
	}
	refuse(api.MaxTime)
	for _, x := range []struct{ first, second, now int64 }{{api.MaxTime, 0, api.MaxTime}, {0, api.MaxTime, api.MaxTime}, {1, api.MaxTime, api.MaxTime}, {1, api.MaxTime - 1, api.MaxTime}, {1, api.MaxTime - 2, api.MaxTime - 1}, {api.MaxTime - 1, 2, api.MaxTime}} {
		w := world.New(nil)
		play(t, w, line{ticks(x.first), nothing()}, line{ticks(x.second), nothing()})
		wantNow(t, w, x.now)
	}
}

// TestEndOfTime holds that a run goes on at MaxTime: deadlines are no later.
func TestEndOfTime(t *testing.T) {
	w := started(t, retriedAnswers(), retried, "1", 9)
	play(t, w,
		line{ticks(api.MaxTime - 1), nothing()},
		line{steps(0), tells(asked())},
		line{steps(0), tells(told(wrong("E", "")))},
		line{steps(0), tells(timed(api.EvSet, api.MaxTime))},
		line{steps(0), fails(api.ErrState)},
		line{ticks(api.MaxTime), nothing()},
		line{steps(0), tells(timed(api.EvFired, api.MaxTime))},
		line{goes(9), tells(told(fine("5")))},
		line{ends(), fineEnd("5")})
	wantNow(t, w, api.MaxTime)

	w = started(t, nil, waits, "1", 5)
	play(t, w,
		line{ticks(api.MaxTime - 3), nothing()},
		line{goes(9), tells(timed(api.EvFired, api.MaxTime))},
		line{ends(), fineEnd("1")})
	wantNow(t, w, api.MaxTime)
}

// TestArm holds act 4: in which act of the disk the power goes; which N disarm it.
func TestArm(t *testing.T) {
	fresh := func() *world.World {
		w := started(t, retriedAnswers(), retried, "1", 9)
		play(t, w, line{goes(2), tells(told(wrong("E", "")))})
		return w
	}
	for _, n := range []int64{0, -1, -2, math.MinInt64, 1 << 31, 1<<31 + 1, 1<<31 + 2, 1<<32 + 1, 1<<33 + 1, math.MaxInt64} {
		w := fresh()
		play(t, w, line{arms(1), nothing()}, line{api.Act{Kind: 4, N: n, Fuel: 3, Machine: short, Input: "1", Keep: 4, At: 5, Turn: 6}, nothing()}, line{goes(99), tells(told(fine("5")))}, line{ends(), fineEnd("5")})
	}
	set := timed(api.EvSet, 3)
	for n, want := range map[int64][]api.Reply{
		1: {fails(api.ErrDown), fails(api.ErrDown), nothing()}, // in the Append of EvSet
		2: {fails(api.ErrDown), fails(api.ErrDown), nothing()}, // in its Sync
		3: {tells(set), nothing(), fails(api.ErrDown)},         // in the Append of EvFired
	} {
		w := fresh()
		play(t, w, line{arms(n), nothing()}, line{steps(0), want[0]}, line{ends(), want[1]})
		play(t, w, line{goes(9), want[2]})
	}
	w := fresh() // it is told anew each time
	play(t, w, line{arms(1), nothing()}, line{arms(3), nothing()}, line{steps(0), tells(set)}, line{ends(), nothing()}, line{ticks(9), nothing()}, line{steps(0), fails(api.ErrDown)})
}

// TestEndedSyncs holds act 6: it makes an end safe, and meets a power failure in that.
func TestEndedSyncs(t *testing.T) {
	w := started(t, nil, short, "1", 1)
	events := []api.Event{begun(short, "1", 1), moved()}
	play(t, w, line{steps(0), tells(moved())})
	wantDisk(t, w, 1, events...)
	play(t, w, line{arms(1), nothing()}, line{ends(), fails(api.ErrDown)}, line{ends(), fails(api.ErrDown)})
	wantDisk(t, w, 1, events...)
	play(t, w, line{restarts(99, -1, 0), nothing()})
	wantDisk(t, w, 2, events...)
	play(t, w, line{arms(1), nothing()}, line{ends(), fineEnd("1")}) // there is nothing to sync
	play(t, w, line{api.Act{Kind: 6, N: 7, Fuel: 3, Machine: short, Input: "1", Keep: 4, At: 5, Turn: 6}, fineEnd("1")})

	w = started(t, nil, short, "1", 1)
	play(t, w, line{ends(), nothing()}, line{steps(0), tells(moved())}, line{ends(), fineEnd("1")})
	wantDisk(t, w, 2, events...)
}

// TestAheadOfStart holds what acts answer ahead of any start.
func TestAheadOfStart(t *testing.T) {
	w := world.New(retriedAnswers())
	play(t, w,
		line{steps(0), fails(api.ErrState)},
		line{ends(), nothing()},
		line{goes(5), nothing()},
		line{goes(0), nothing()},
		line{arms(1), nothing()},
		line{goes(5), nothing()},
		line{restarts(5, 0, math.MaxUint32), nothing()},
		line{steps(0), fails(api.ErrState)},
		line{ends(), nothing()},
		line{goes(5), nothing()},
		line{ticks(5), nothing()},
		line{goes(5), nothing()})
	wantBlank(t, w)
	wantBytes(t, w, 0, nil)
	wantNow(t, w, 5)
	wantAsked(t, w)
}

// TestBehindTheEnd holds what they answer behind the end.
func TestBehindTheEnd(t *testing.T) {
	for end, machine := range map[string]string{"fine": short, "bad": `{"StartAt":"a","States":{"a":{"Type":"Fail","Error":"e","Cause":"c"}}}`} {
		want := fineEnd("1")
		if end == "bad" {
			want = badEnd("e", "c")
		}
		w := started(t, nil, machine, "1", 1)
		play(t, w, line{goes(5), tells(moved())})
		for range 2 {
			play(t, w,
				line{steps(0), fails(api.ErrState)},
				line{goes(5), nothing()},
				line{ends(), want},
				line{goes(5), nothing()},
				line{starts(machine, "1", 1), fails(api.ErrState)},
				line{ticks(5), nothing()},
				line{steps(0), fails(api.ErrState)},
				line{restarts(0, -1, 0), nothing()})
		}
		wantHistory(t, w, begun(machine, "1", 1), moved())
		wantDisk(t, w, 2, begun(machine, "1", 1), moved())
		wantNow(t, w, 10)
	}
}

// TestBehindAPowerFailure holds what they answer of an engine that is dead: one that has no turn and tells no deadline, so a go ends at once.
func TestBehindAPowerFailure(t *testing.T) {
	w := started(t, retriedAnswers(), retried, "1", 9)
	play(t, w, line{goes(2), tells(told(wrong("E", "")))}, line{arms(1), nothing()}, line{goes(9), fails(api.ErrDown)})
	events := []api.Event{begun(retried, "1", 9), asked(), told(wrong("E", "")), timed(api.EvSet, 3)}
	look := func() {
		t.Helper()
		wantHistory(t, w, events[:3]...)
		wantFrames(t, w, 9, api.Frame{At: "a", Visit: 1, Attempt: 1, Left: 8, Raw: val("1"), Phase: api.Delayed, Charged: []int{1}, Delay: 3, Back: true, Index: -1})
		wantDisk(t, w, 2, events...)
		wantAsked(t, w, key(nil, 1, 1, "r", "1"))
	}
	look()
	play(t, w,
		line{starts(retried, "1", 9), fails(api.ErrDown)},
		line{starts("", "", 0), fails(api.ErrDown)},
		line{steps(0), fails(api.ErrDown)},
		line{ends(), fails(api.ErrDown)},
		line{goes(9), nothing()},
		line{ticks(9), nothing()},
		line{arms(0), nothing()},
		line{steps(0), fails(api.ErrDown)},
		line{goes(9), nothing()})
	look()
	wantNow(t, w, 9)
	play(t, w, line{restarts(99, -1, 0), nothing()})
	wantHistory(t, w, events...)
	play(t, w, line{goes(9), tells(told(fine("5")))}, line{ends(), fineEnd("5")})
	wantNow(t, w, 9)
}

// TestPowerInStart holds act 1 with the power going in it: what stands of the beginning is found or isn't.
func TestPowerInStart(t *testing.T) {
	for n := range int64(2) {
		for _, keep := range []int{0, 10, 1000} {
			w := world.New(nil)
			play(t, w, line{arms(n + 1), nothing()}, line{starts(short, "1", 1), fails(api.ErrDown)}, line{starts(short, "1", 1), fails(api.ErrDown)}, line{steps(0), fails(api.ErrDown)}, line{goes(5), nothing()})
			wantBlank(t, w)
			wantDisk(t, w, 0, begun(short, "1", 1))
			play(t, w, line{restarts(keep, -1, 0), nothing()})
			if keep < 1000 {
				wantBlank(t, w)
				wantBytes(t, w, 0, nil)
				play(t, w, line{starts(short, "1", 1), nothing()})
			}
			play(t, w, line{goes(5), tells(moved())}, line{ends(), fineEnd("1")})
		}
	}
}
