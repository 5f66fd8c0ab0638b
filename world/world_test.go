package world_test

import (
	"testing"

	"voyage/api"
	"voyage/world"
)

// TestFirstExample holds the chapter's first table, line by line, and what can be looked at behind each.
func TestFirstExample(t *testing.T) {
	w := world.New(retriedAnswers())
	events := []api.Event{begun(retried, "1", 9), asked(), told(wrong("E", "")), timed(api.EvSet, 3), timed(api.EvFired, 3), asked(), told(fine("5"))}
	first, second := key(nil, 1, 1, "r", "1"), key(nil, 1, 2, "r", "1")
	wantBlank(t, w)
	wantBytes(t, w, 0, nil)
	play(t, w,
		line{steps(0), fails(api.ErrState)},
		line{starts(retried, "1", 9), nothing()},
		line{steps(0), tells(asked())},
		line{steps(0), tells(told(wrong("E", "")))})
	wantFrames(t, w, 9, api.Frame{At: "a", Visit: 1, Attempt: 1, Left: 8, Raw: val("1"), Phase: api.Delayed, Charged: []int{1}, Delay: 3, Back: true, Index: -1})
	wantHistory(t, w, events[:3]...)
	wantDisk(t, w, 2, events[:3]...)
	wantAsked(t, w, first)

	play(t, w,
		line{steps(0), tells(timed(api.EvSet, 3))},
		line{steps(0), fails(api.ErrState)})
	wantFrames(t, w, 9, api.Frame{At: "a", Visit: 1, Attempt: 1, Left: 8, Raw: val("1"), Phase: api.Waiting, Charged: []int{1}, Due: 3, Back: true, Index: -1})
	wantDisk(t, w, 4, events[:4]...)
	wantNow(t, w, 0)

	play(t, w,
		line{ticks(2), nothing()},
		line{steps(0), fails(api.ErrState)},
		line{ticks(-1), fails(api.ErrArg)},
		line{ticks(1), nothing()},
		line{steps(0), tells(timed(api.EvFired, 3))})
	wantNow(t, w, 3)
	wantDisk(t, w, 4, events[:5]...)

	play(t, w,
		line{arms(1), nothing()},
		line{steps(0), fails(api.ErrDown)},
		line{steps(0), fails(api.ErrDown)})
	wantDisk(t, w, 4, events[:6]...)
	wantHistory(t, w, events[:5]...)
	wantAsked(t, w, first)

	play(t, w, line{restarts(3, -1, 0), nothing()})
	wantDisk(t, w, 4, events[:4]...)
	play(t, w,
		line{steps(0), tells(timed(api.EvFired, 3))},
		line{steps(0), tells(asked())},
		line{restarts(0, -1, 0), nothing()},
		line{steps(0), tells(told(fine("5")))},
		line{ends(), fineEnd("5")})
	wantHistory(t, w, events...)
	wantDisk(t, w, 7, events...)
	wantAsked(t, w, first, second)
	wantNow(t, w, 3)
}

// TestSecondExample holds the second table: an engine that can't be opened, and one that can be again.
func TestSecondExample(t *testing.T) {
	w := started(t, retriedAnswers(), retried, "1", 9)
	play(t, w,
		line{steps(0), tells(asked())},
		line{steps(0), tells(told(wrong("E", "")))},
		line{restartsArmed(1, 2, -1, 0), fails(api.ErrDown)},
		line{steps(0), fails(api.ErrDown)},
		line{ends(), fails(api.ErrDown)},
		line{restarts(0, 0, 0), nothing()},
		line{steps(0), tells(told(wrong("E", "")))})
	first := key(nil, 1, 1, "r", "1")
	wantAsked(t, w, first, first)
}

// TestThirdExample holds the third one: the time goes on its own.
func TestThirdExample(t *testing.T) {
	w := started(t, retriedAnswers(), retried, "1", 9)
	play(t, w, line{goes(3), tells(timed(api.EvSet, 3))})
	wantNow(t, w, 0)
	play(t, w, line{goes(100), tells(told(fine("5")))}, line{ends(), fineEnd("5")})
	wantNow(t, w, 3)
}

// allTypes has a state of each of the eight types; whether it ends well the input's ok tells.
const allTypes = `{"StartAt":"Pass","States":{
	"Pass":{"Type":"Pass","Result":{"l":[1,2]},"ResultPath":"$.p","Next":"Task"},
	"Task":{"Type":"Task","Resource":"r","ResultPath":"$.t","Next":"Wait","Retry":[{"ErrorEquals":["again"],"IntervalSeconds":3,"MaxAttempts":1}]},
	"Wait":{"Type":"Wait","Seconds":5,"Next":"Parallel"},
	"Parallel":{"Type":"Parallel","ResultPath":"$.b","Next":"Map","Branches":[
		{"StartAt":"x","States":{"x":{"Type":"Pass","Result":1,"End":true}}},
		{"StartAt":"y","States":{"y":{"Type":"Wait","Timestamp":"1970-01-01T00:00:30Z","OutputPath":"$.ok","End":true}}}]},
	"Map":{"Type":"Map","ItemsPath":"$.p.l","MaxConcurrency":1,"ResultPath":"$.m","Next":"Choice",
		"Iterator":{"StartAt":"z","States":{"z":{"Type":"Pass","End":true}}}},
	"Choice":{"Type":"Choice","Choices":[{"Variable":"$.ok","BooleanEquals":true,"Next":"Succeed"}],"Default":"Fail"},
	"Succeed":{"Type":"Succeed","InputPath":"$.b"},
	"Fail":{"Type":"Fail","Error":"bad","Cause":"luck"}}}`

func allTypesAnswers() []api.Answer {
	return []api.Answer{answer("r", 1, wrong("again", "")), answer("r", 0, fine("[9]"))}
}

// allTypesEnds are inputs and what comes of them.
func allTypesEnds() map[string]api.Reply {
	return map[string]api.Reply{`{"ok":true}`: fineEnd("[1,true]"), `{"ok":false}`: badEnd("bad", "luck")}
}

// TestAllTypesActByAct takes runs through a state of each type, from their start to either end.
func TestAllTypesActByAct(t *testing.T) {
	for input, end := range allTypesEnds() {
		w := started(t, allTypesAnswers(), allTypes, input, 20)
		play(t, w,
			line{steps(0), tells(moved())}, // Pass
			line{steps(0), tells(asked())},
			line{steps(0), tells(told(wrong("again", "")))},
			line{ticks(4), nothing()},
			line{steps(0), tells(timed(api.EvSet, 7))}, // a retry
			line{ends(), nothing()},
			line{ticks(2), nothing()},
			line{steps(0), fails(api.ErrState)},
			line{ticks(2), nothing()},
			line{steps(0), tells(timed(api.EvFired, 8))},
			line{steps(0), tells(asked())},
			line{steps(0), tells(told(fine("[9]")))},
			line{ticks(1), nothing()},
			line{steps(0), tells(timed(api.EvSet, 14))}, // Wait
			line{ticks(5), nothing()},
			line{steps(0), tells(timed(api.EvFired, 14))},
			line{steps(0), tells(moved())}, // Parallel
			line{steps(1), tells(timed(api.EvSet, 30, 4, 1, 1))},
			line{steps(0), tells(moved(4, 1, 0))},
			line{ticks(15), nothing()},
			line{steps(0), fails(api.ErrState)},
			line{ticks(2), nothing()},
			line{steps(0), tells(timed(api.EvFired, 31, 4, 1, 1))},
			line{steps(0), tells(event(api.EvJoined))},
			line{steps(0), tells(moved())}, // Map, of whose parts one goes on at a time
			line{steps(1), tells(moved(5, 1, 0))},
			line{steps(1), tells(moved(5, 1, 1))},
			line{steps(0), tells(event(api.EvJoined))},
			line{steps(0), tells(moved())}, // Choice
			line{ends(), nothing()},
			line{steps(0), tells(moved())}, // Succeed, or Fail
			line{ends(), end},
			line{steps(0), fails(api.ErrState)},
			line{ends(), end})
		wantNow(t, w, 31)
		if b, synced := w.Bytes(); synced != len(b) {
			t.Fatalf("%d of %d bytes are synced", synced, len(b))
		}
		if keys := w.Asked(); len(keys) != 2 || keys[0].Visit != 2 || keys[0].Attempt != 1 || keys[1].Visit != 2 || keys[1].Attempt != 2 {
			t.Fatalf("asked: %+v", keys)
		}
	}
}

// TestAllTypesByGo takes the same runs by one act: the first turn each time, and the time from deadline to deadline.
func TestAllTypesByGo(t *testing.T) {
	for input, end := range allTypesEnds() {
		w := started(t, allTypesAnswers(), allTypes, input, 20)
		play(t, w, line{goes(100), tells(moved())}, line{ends(), end})
		wantNow(t, w, 30)
		wantHistory(t, w,
			begun(allTypes, input, 20),
			moved(),
			asked(), told(wrong("again", "")), timed(api.EvSet, 3), timed(api.EvFired, 3), asked(), told(fine("[9]")),
			timed(api.EvSet, 8), timed(api.EvFired, 8),
			moved(), moved(4, 1, 0), timed(api.EvSet, 30, 4, 1, 1), timed(api.EvFired, 30, 4, 1, 1), event(api.EvJoined),
			moved(), moved(5, 1, 0), moved(5, 1, 1), event(api.EvJoined),
			moved(),
			moved())
	}
}
