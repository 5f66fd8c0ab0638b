package world_test

import (
	"math"
	"testing"

	"voyage/api"
	"voyage/world"
)

// pair has two parts, which take turns as they are picked, and ends by what they came to.
const pair = `{"StartAt":"p","States":{"p":{"Type":"Parallel","End":true,"Branches":[
	{"StartAt":"x","States":{"x":{"Type":"Pass","Result":1,"Next":"y"},"y":{"Type":"Pass","Result":2,"End":true}}},
	{"StartAt":"x","States":{"x":{"Type":"Pass","Result":3,"End":true}}}]}}}`

// pairEvents are the beginning of a run of it, and four events, none of which is synced.
func pairEvents() []api.Event {
	return []api.Event{begun(pair, "1", 5), moved(), moved(1, 1, 1), moved(1, 1, 0), moved(1, 1, 0)}
}

// atPair is a world that has come to these.
func atPair(t *testing.T) *world.World {
	t.Helper()
	w := started(t, nil, pair, "1", 5)
	l := pairEvents()
	play(t, w, line{steps(0), tells(l[1])}, line{steps(1), tells(l[2])}, line{steps(0), tells(l[3])}, line{steps(0), tells(l[4])})
	wantDisk(t, w, 1, l...)
	return w
}

// frameBytes tells how many bytes an event takes on the disk.
func frameBytes(e api.Event) int { return len(written(e)) }

// TestRestartKeeps holds act 5: how much of what wasn't synced stays, with the power on till then, and behind a failure, whose event stands there, too.
func TestRestartKeeps(t *testing.T) {
	l := append(pairEvents(), event(api.EvJoined))
	one, two, three, four := frameBytes(l[1]), frameBytes(l[2]), frameBytes(l[3]), frameBytes(l[4])
	all := one + two + three + four
	for _, x := range []struct{ keep, events int }{
		{0, 0}, {-1, 0}, {math.MinInt, 0}, {1, 0}, {one - 1, 0},
		{one, 1}, {one + 1, 1}, {one + two - 1, 1},
		{one + two, 2}, {one + two + three - 1, 2},
		{one + two + three, 3}, {all - 1, 3},
		{all, 4}, {all + 1, 4}, {all + frameBytes(l[5]) - 1, 4},
		{all + frameBytes(l[5]), 5}, {math.MaxInt, 5},
	} {
		w := atPair(t)
		want := min(x.events, 4)
		play(t, w, line{api.Act{Kind: 5, Keep: x.keep, At: -1, Fuel: 3, Machine: short, Input: "1"}, nothing()})
		wantHistory(t, w, l[:want+1]...)
		wantDisk(t, w, want+1, l[:want+1]...)
		play(t, w, line{goes(9), tells(l[5])}, line{ends(), fineEnd("[2,3]")})

		w = atPair(t)
		play(t, w, line{arms(1), nothing()}, line{goes(9), fails(api.ErrDown)}, line{restarts(x.keep, -1, 0), nothing()})
		wantHistory(t, w, l[:x.events+1]...)
		wantDisk(t, w, x.events+1, l[:x.events+1]...)
		last := tells(l[5])
		if x.events == 5 {
			last = nothing()
		}
		play(t, w, line{goes(9), last}, line{ends(), fineEnd("[2,3]")})
	}
}

// TestRestartTurns holds act 5: which bits of what stays are turned, and that nothing is found from the frame on in which one is.
func TestRestartTurns(t *testing.T) {
	l := pairEvents()
	one, two, three := 8*frameBytes(l[1]), 8*frameBytes(l[2]), 8*frameBytes(l[3])
	end := one + two + three + 8*frameBytes(l[4])
	for _, x := range []struct {
		at     int
		turn   uint32
		events int
	}{
		{0, 1 << 31, 0}, {0, 1, 0}, {0, math.MaxUint32, 0}, {0, 0, 4}, {-1, math.MaxUint32, 4}, {-32, math.MaxUint32, 4}, {math.MinInt, math.MaxUint32, 4},
		{one - 1, 1 << 31, 0}, {one, 1 << 31, 1}, {one - 31, 1, 1}, {one - 32, 1, 0}, {one - 1, 1 << 30, 1},
		{one + two + 5, 5, 2}, {one + two - 16, 0xFFFF, 2}, {one + two - 16, 0x1FFFF, 1},
		{end - 1, 1 << 31, 3}, {end - 32, 1, 3}, {end - 1, 1 << 30, 4}, {end - 31, 1, 4},
		{end, math.MaxUint32, 4}, {end + 1, math.MaxUint32, 4}, {math.MaxInt, math.MaxUint32, 4},
	} {
		w := atPair(t)
		play(t, w, line{restarts(1000, x.at, x.turn), nothing()})
		wantHistory(t, w, l[:x.events+1]...)
		wantDisk(t, w, x.events+1, l[:x.events+1]...)
		play(t, w, line{goes(9), tells(event(api.EvJoined))}, line{ends(), fineEnd("[2,3]")})
	}
	// What doesn't stay isn't turned, and what is safe isn't either.
	w := atPair(t)
	play(t, w, line{restarts(one/8, one, math.MaxUint32), nothing()})
	wantDisk(t, w, 2, l[:2]...)
	play(t, w, line{restarts(1000, 0, math.MaxUint32), nothing()})
	wantDisk(t, w, 2, l[:2]...)
}

// TestRestartDisarms holds act 5: what was armed ahead of it doesn't count behind it.
func TestRestartDisarms(t *testing.T) {
	l := pairEvents()
	for _, n := range []int64{0, -1, math.MinInt64, 1 << 31, 1<<31 + 1, 1<<32 + 1, math.MaxInt64} {
		w := atPair(t)
		play(t, w, line{arms(1), nothing()}, line{restartsArmed(n, 3, -1, 0), nothing()})
		wantDisk(t, w, 1, l[0])
		play(t, w, line{goes(99), tells(event(api.EvJoined))}, line{ends(), fineEnd("[2,3]")})
	}
}

// TestRestartArms holds act 5: its own Arm counts from the opening on.
func TestRestartArms(t *testing.T) {
	l := pairEvents()
	w := atPair(t) // the torn frame is cut off in the first act, the next step is the second one
	play(t, w, line{restartsArmed(2, 3, -1, 0), nothing()})
	wantDisk(t, w, 1, l[0])
	play(t, w, line{steps(0), fails(api.ErrDown)}, line{steps(0), fails(api.ErrDown)})
	wantHistory(t, w, l[0])
	wantDisk(t, w, 1, l[:2]...)

	w = atPair(t) // there is nothing to cut off: the next step is the first act
	play(t, w, line{restartsArmed(1, 0, -1, 0), nothing()})
	wantDisk(t, w, 1, l[0])
	play(t, w, line{steps(0), fails(api.ErrDown)}, line{ends(), fails(api.ErrDown)})

	w = atPair(t)
	play(t, w, line{restartsArmed(3, 3, -1, 0), nothing()}, line{steps(0), tells(l[1])}, line{steps(0), fails(api.ErrDown)})
	wantHistory(t, w, l[:2]...)

	w = world.New(nil)
	play(t, w, line{restartsArmed(1, 0, -1, 0), nothing()}, line{starts(pair, "1", 5), fails(api.ErrDown)})
	w = world.New(nil)
	play(t, w, line{restartsArmed(3, 0, -1, 0), nothing()}, line{starts(pair, "1", 5), nothing()}, line{steps(0), fails(api.ErrDown)})
}

// TestNoEngine holds P18.3: what each act answers, and what can be looked at, when the power has gone in an opening; and that a restart whose opening goes well ends that.
func TestNoEngine(t *testing.T) {
	w := started(t, retriedAnswers(), retried, "1", 9)
	l := append([]api.Event{begun(retried, "1", 9)}, retriedEvents()...)
	play(t, w, line{goes(2), tells(l[2])}, line{ticks(4), nothing()})
	torn := append(written(l[:2]...), written(l[2])[:5]...)
	play(t, w, line{restartsArmed(1, 5, -1, 0), fails(api.ErrDown)})
	look := func(now int64) {
		t.Helper()
		wantBlank(t, w)
		wantBytes(t, w, len(torn), torn)
		wantAsked(t, w, key(nil, 1, 1, "r", "1"))
		wantNow(t, w, now)
	}
	refuse := func() {
		t.Helper()
		for range 2 {
			play(t, w,
				line{starts(retried, "1", 9), fails(api.ErrDown)},
				line{starts("", "", -1), fails(api.ErrDown)},
				line{steps(0), fails(api.ErrDown)},
				line{steps(-3), fails(api.ErrDown)},
				line{ends(), fails(api.ErrDown)},
				line{goes(9), fails(api.ErrDown)},
				line{goes(0), fails(api.ErrDown)},
				line{goes(-1), fails(api.ErrDown)},
				line{api.Act{Kind: 0}, fails(api.ErrArg)},
				line{api.Act{Kind: 8}, fails(api.ErrArg)},
				line{ticks(-1), fails(api.ErrArg)},
				line{arms(0), nothing()},
				line{arms(5), nothing()})
		}
	}
	look(4)
	refuse()
	play(t, w, line{ticks(3), nothing()})
	look(7)
	play(t, w, line{restartsArmed(1, 0, 3, math.MaxUint32), fails(api.ErrDown)}) // all of it is safe by now: nothing is lost, and nothing turned
	look(7)
	refuse()
	play(t, w, line{restarts(0, -1, 0), nothing()})
	wantHistory(t, w, l[:2]...)
	wantDisk(t, w, 2, l[:2]...)
	wantNow(t, w, 7)
	play(t, w, line{starts(retried, "1", 9), fails(api.ErrState)}, line{steps(0), tells(l[2])}, line{goes(99), tells(l[6])}, line{ends(), fineEnd("5")})
	wantNow(t, w, 10)
	first := key(nil, 1, 1, "r", "1")
	wantAsked(t, w, first, first, key(nil, 1, 2, "r", "1"))
}

// TestTwoRestarts holds P18.6 by one run: the second of two restarts, one behind the other, finds the same, whatever it tells.
func TestTwoRestarts(t *testing.T) {
	for _, again := range []api.Act{restarts(0, -1, 0), restarts(-1, 5, 7), restarts(1000, 0, math.MaxUint32), restartsArmed(1, 3, 0, 1)} {
		for _, keep := range []int{0, 20, 40, 1000} {
			w := atPair(t)
			play(t, w, line{restarts(keep, -1, 0), nothing()})
			c, l := w.Config(), w.History()
			b, synced := w.Bytes()
			play(t, w, line{again, nothing()})
			wantHistory(t, w, l...)
			wantFrames(t, w, c.Fuel, c.Frames...)
			wantBytes(t, w, synced, b)
		}
	}
}

// TestTimeStays holds that a restart leaves the time as it is, and what was asked.
func TestTimeStays(t *testing.T) {
	w := started(t, retriedAnswers(), retried, "1", 9)
	play(t, w, line{ticks(6), nothing()}, line{goes(2), tells(told(wrong("E", "")))}, line{restarts(0, -1, 0), nothing()})
	wantNow(t, w, 6)
	wantAsked(t, w, key(nil, 1, 1, "r", "1"))
	play(t, w, line{goes(2), tells(timed(api.EvSet, 9))}, line{ticks(2), nothing()}, line{restarts(0, -1, 0), nothing()})
	wantNow(t, w, 8)
	wantFrames(t, w, 9, api.Frame{At: "a", Visit: 1, Attempt: 1, Left: 8, Raw: val("1"), Phase: api.Waiting, Charged: []int{1}, Due: 9, Back: true, Index: -1})
	play(t, w, line{steps(0), fails(api.ErrState)}, line{ticks(2), nothing()}, line{steps(0), tells(timed(api.EvFired, 10))})
}
