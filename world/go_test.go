package world_test

import (
	"math"
	"testing"

	"voyage/api"
	"voyage/world"
)

// retriedEvents are those of a run of the chapter's machine by one go, behind its beginning.
func retriedEvents() []api.Event {
	return []api.Event{asked(), told(wrong("E", "")), timed(api.EvSet, 3), timed(api.EvFired, 3), asked(), told(fine("5"))}
}

// TestGoTimes holds act 7: it does something at most N times, a step or letting the time go on.
func TestGoTimes(t *testing.T) {
	l := retriedEvents()
	for _, x := range []struct {
		n      int64
		events int
		now    int64
	}{{0, 0, 0}, {-1, 0, 0}, {-5, 0, 0}, {math.MinInt64, 0, 0}, {1, 1, 0}, {2, 2, 0}, {3, 3, 0}, {4, 3, 3}, {5, 4, 3}, {6, 5, 3}, {7, 6, 3}, {8, 6, 3}, {1 << 16, 6, 3}, {1<<16 + 1, 6, 3}, {math.MaxInt64, 6, 3}} {
		w := started(t, retriedAnswers(), retried, "1", 9)
		want := nothing()
		if x.events > 0 {
			want = tells(l[x.events-1])
		}
		play(t, w, line{api.Act{Kind: 7, N: x.n, Fuel: 3, Machine: "x", Input: "y", Keep: 4, At: 5, Turn: 6}, want})
		wantNow(t, w, x.now)
		wantHistory(t, w, append([]api.Event{begun(retried, "1", 9)}, l[:x.events]...)...)
		end := nothing()
		if x.events == 6 {
			end = fineEnd("5")
		}
		play(t, w, line{ends(), end})
	}
}

// TestGoByOnes holds that goes of one each come to what one go comes to; a reply tells the last step of its own go alone.
func TestGoByOnes(t *testing.T) {
	l := retriedEvents()
	w := started(t, retriedAnswers(), retried, "1", 9)
	play(t, w,
		line{goes(1), tells(l[0])},
		line{goes(1), tells(l[1])},
		line{goes(1), tells(l[2])},
		line{goes(1), nothing()}) // the time goes on
	wantNow(t, w, 3)
	play(t, w,
		line{goes(1), tells(l[3])},
		line{goes(1), tells(l[4])},
		line{goes(1), tells(l[5])},
		line{goes(1), nothing()},
		line{ends(), fineEnd("5")})
	wantNow(t, w, 3)
}

// TestGoFirstTurn holds that a go takes the first turn of several, and lets the time go to the least deadline, and no further.
func TestGoFirstTurn(t *testing.T) {
	const machine = `{"StartAt":"p","States":{"p":{"Type":"Parallel","End":true,"Branches":[
		{"StartAt":"x","States":{"x":{"Type":"Wait","Seconds":9,"End":true}}},
		{"StartAt":"x","States":{"x":{"Type":"Wait","Seconds":4,"Next":"y"},"y":{"Type":"Wait","Seconds":2,"End":true}}},
		{"StartAt":"x","States":{"x":{"Type":"Wait","Seconds":4,"End":true}}}]}}}`
	w := started(t, nil, machine, "1", 5)
	play(t, w, line{ticks(10), nothing()}, line{goes(4), tells(timed(api.EvSet, 14, 1, 1, 2))}, line{goes(1), nothing()})
	wantNow(t, w, 14)
	play(t, w, line{goes(2), tells(timed(api.EvSet, 16, 1, 1, 1))}, line{goes(1), tells(timed(api.EvFired, 14, 1, 1, 2))}, line{goes(1), nothing()})
	wantNow(t, w, 16)
	play(t, w, line{goes(2), tells(timed(api.EvFired, 16, 1, 1, 1))})
	wantNow(t, w, 19)
	play(t, w, line{goes(9), tells(event(api.EvJoined))}, line{ends(), fineEnd("[1,1,1]")})
	wantHistory(t, w, begun(machine, "1", 5), moved(),
		timed(api.EvSet, 19, 1, 1, 0), timed(api.EvSet, 14, 1, 1, 1), timed(api.EvSet, 14, 1, 1, 2),
		timed(api.EvFired, 14, 1, 1, 1), timed(api.EvSet, 16, 1, 1, 1), timed(api.EvFired, 14, 1, 1, 2),
		timed(api.EvFired, 16, 1, 1, 1), timed(api.EvFired, 19, 1, 1, 0), event(api.EvJoined))
}

// TestGoBehindARestart holds that a go behind a restart counts from the world's time, which its new engine hasn't been told yet.
func TestGoBehindARestart(t *testing.T) {
	const machine = `{"StartAt":"p","States":{"p":{"Type":"Parallel","End":true,"Branches":[
		{"StartAt":"x","States":{"x":{"Type":"Wait","Seconds":9,"End":true}}},
		{"StartAt":"x","States":{"x":{"Type":"Wait","Seconds":4,"End":true}}}]}}}`
	w := started(t, nil, machine, "1", 5)
	play(t, w,
		line{goes(3), tells(timed(api.EvSet, 4, 1, 1, 1))},
		line{ticks(6), nothing()},
		line{restarts(0, -1, 0), nothing()},
		line{goes(1), tells(timed(api.EvFired, 6, 1, 1, 1))})
	wantNow(t, w, 6)
	play(t, w, line{restarts(99, -1, 0), nothing()}, line{goes(1), nothing()})
	wantNow(t, w, 9)
	play(t, w, line{goes(9), tells(event(api.EvJoined))}, line{ends(), fineEnd("[1,1]")})
}

// TestGoMost holds that an N above 2^16 counts as that.
func TestGoMost(t *testing.T) {
	const machine = `{"StartAt":"a","States":{
		"a":{"Type":"Task","Resource":"r","Next":"b"},
		"b":{"Type":"Choice","Choices":[{"Variable":"$","NumericEquals":6,"Next":"c"}],"Default":"a"},
		"c":{"Type":"Succeed"}}}`
	for _, n := range []int64{1<<16 - 1, 1 << 16, 1<<16 + 1, math.MaxInt64} {
		w := started(t, []api.Answer{answer("r", 0, fine("5"))}, machine, "1", api.MaxFuel)
		done := min(n, 1<<16)
		row := []api.Event{asked(), told(fine("5")), moved()}
		play(t, w, line{goes(n), tells(row[(done-1)%3])})
		if got := int64(len(w.History())) - 1; got != done {
			t.Fatalf("go of %d: %d events", n, got)
		}
		play(t, w, line{goes(1), tells(row[done%3])}, line{ends(), nothing()})
	}
}

// TestGoAndPower holds that a go ends with the error of its step; its reply tells the last one that had none, and the time is what it was then.
func TestGoAndPower(t *testing.T) {
	l := retriedEvents()
	for _, x := range []struct {
		n      int64 // in this act of the disk
		events int   // so many are made
		now    int64
		onDisk int // so many stand there
	}{
		{1, 0, 0, 1}, {2, 0, 0, 1}, // the Append and the Sync of the first EvAsked
		{3, 1, 0, 2},
		{4, 2, 0, 3}, {5, 2, 0, 3},
		{6, 3, 3, 4}, // the Append of EvFired: the time has gone on
		{7, 4, 3, 5}, {8, 4, 3, 5},
		{9, 5, 3, 6},
	} {
		w := started(t, retriedAnswers(), retried, "1", 9)
		all := append([]api.Event{begun(retried, "1", 9)}, l...)
		want := fails(api.ErrDown)
		if x.events > 0 {
			want.Event = l[x.events-1]
		}
		play(t, w, line{arms(x.n), nothing()}, line{goes(99), want}, line{goes(99), nothing()}, line{steps(0), fails(api.ErrDown)})
		wantNow(t, w, x.now)
		wantHistory(t, w, all[:x.events+1]...)
		if got, _ := w.Bytes(); len(got) != len(written(all[:x.onDisk+1]...)) {
			t.Fatalf("armed with %d: %d bytes on the disk", x.n, len(got))
		}
		play(t, w, line{restarts(1000, -1, 0), nothing()})
		wantHistory(t, w, all[:x.onDisk+1]...)
		if x.onDisk < len(l) {
			play(t, w, line{goes(99), tells(l[len(l)-1])})
		}
		play(t, w, line{ends(), fineEnd("5")})
		wantHistory(t, w, all...)
	}
	w := started(t, retriedAnswers(), retried, "1", 9)
	play(t, w, line{arms(10), nothing()}, line{goes(99), tells(l[5])}, line{ends(), fails(api.ErrDown)})
}

// TestGoWithinActs holds that an arm ahead of goes counts on over them, and that a go ends where N says, though the power would go behind.
func TestGoWithinActs(t *testing.T) {
	l := retriedEvents()
	w := world.New(retriedAnswers())
	got := w.Do(starts(retried, "1", 9), arms(5), goes(2), goes(0), goes(1), goes(1), ends(), restarts(0, -1, 0), goes(9), ends())
	want := []api.Reply{nothing(), nothing(), tells(l[1]), nothing(), fails(api.ErrDown), nothing(), fails(api.ErrDown), nothing(), tells(l[5]), fineEnd("5")}
	if !same(got, want) {
		for i := range got {
			t.Logf("%d: %s", i, shownReply(got[i]))
		}
		t.Fatal("other replies")
	}
	wantAsked(t, w, key(nil, 1, 1, "r", "1"), key(nil, 1, 1, "r", "1"), key(nil, 1, 2, "r", "1"))
}
