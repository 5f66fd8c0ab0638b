package kern_test

import (
	"fmt"
	"math"
	"strings"
	"testing"

	"voyage/api"
	"voyage/json"
	"voyage/kern"
)

// busy is an event of a kind all of whose fields are told, whether they count or not.
func busy(kind int, place ...int) api.Event {
	return api.Event{Kind: kind, Place: place, Time: 1 << 40, Outcome: fine("1"), Machine: "m", Input: "i", Fuel: -3}
}

// TestApplyKinds holds P15.6: of each phase, and of each type of a Ready frame, just one kind can be.
func TestApplyKinds(t *testing.T) {
	in := val("[1]")
	part := machine(pass("A", ""))
	states := []api.State{
		pass("S", ""), task("S", ""), {Name: "S", Type: api.Choice, Default: "S"}, {Name: "S", Type: api.Wait, WaitKind: 1}, {Name: "S", Type: api.Succeed}, fails("S", "e", ""), parallel("S", "", part), mapped("S", "", 0, part),
		{Name: "S", Type: api.Wait, WaitKind: 9}, {Name: "S", Type: api.Task, Input: way("$.q")}, {Name: "S", Type: api.Wait, WaitKind: 1, Input: way("$.q")},
	}
	kinds := []int{api.EvMoved, api.EvAsked, api.EvMoved, api.EvSet, api.EvMoved, api.EvMoved, api.EvMoved, api.EvMoved, api.EvMoved, api.EvMoved, api.EvMoved}
	check := func(what string, m api.Machine, c api.Config, want int) {
		t.Helper()
		for kind := -2; kind <= 9; kind++ {
			if _, err := kern.Apply(m, in, c, busy(kind)); (err == nil) != (want != 0 && kind == want) {
				t.Errorf("%s: Apply of the kind %d: %v", what, kind, err)
			}
		}
		if e, err := kern.Next(m, in, c, 0, 0, noOutcome); want != 0 && (err != nil || e.Kind != want) || want == 0 && err != api.ErrEvent {
			t.Errorf("%s: Next: %+v, %v", what, e, err)
		}
	}
	for i, s := range states {
		check(fmt.Sprintf("Ready, %d", i), machine(s), config(at("S")), kinds[i])
	}
	check("Asked", machine(states[1]), config(phased(at("S"), api.Asked)), api.EvTold)
	for _, i := range []int{1, 6, 7} {
		check("Delayed", machine(states[i]), config(phased(at("S"), api.Delayed)), api.EvSet)
		f := phased(at("S"), api.Waiting)
		f.Back = true
		check("Waiting, back", machine(states[i]), config(f), api.EvFired)
	}
	check("Waiting", machine(states[3]), config(phased(at("S"), api.Waiting)), api.EvFired)
	for _, i := range []int{6, 7} {
		check("Fanned, no parts", machine(states[i]), config(phased(at("S"), api.Fanned)), api.EvJoined)
		check("Fanned, all Done", machine(states[i]), config(phased(at("S"), api.Fanned), phased(at("A", 1, 1, 0), api.Done)), api.EvJoined)
		check("Fanned", machine(states[i]), config(phased(at("S"), api.Fanned), at("A", 1, 1, 0)), 0)
		check("Done", machine(states[i]), config(phased(at("S"), api.Done)), 0)
		check("Failed", machine(states[i]), config(phased(at("S"), api.Failed)), 0)
	}
	m := machine(parallel("P", "", machine(pass("A", "")), part))
	for kind := -2; kind <= 9; kind++ {
		refused(t, m, in, config(phased(at("P"), api.Fanned), phased(at("A", 1, 1, 0), api.Done), at("A", 1, 1, 1)), busy(kind, 1, 1, 0))
	}
}

// TestApplyPlace holds P15.6: there is a frame of e's Place.
func TestApplyPlace(t *testing.T) {
	m := machine(parallel("P", "", machine(task("T", "")), machine(task("T", ""))))
	c := config(phased(at("P"), api.Fanned), at("T", 1, 1, 0), at("T", 1, 1, 1))
	for _, place := range [][]int{nil, {}, {0}, {1}, {1, 1}, {1, 1, 2}, {1, 1, -1}, {2, 1, 0}, {1, 2, 0}, {1, 1, 0, 0}, {1, 1, 0, 1, 1, 0}, {1, 1, 0, 1, 1, 1}, {0, 1, 1}} {
		refused(t, m, val("1"), c, event(api.EvAsked, place...))
	}
	for i := range 2 {
		d := taken(t, m, val("1"), c, event(api.EvAsked, 1, 1, i))
		want := config(phased(at("P"), api.Fanned), at("T", 1, 1, 0), at("T", 1, 1, 1))
		want.Frames[i+1].Phase = api.Asked
		wantConfig(t, "asked", d, want)
	}
}

// TestApplyFields holds P15.6: fields that a kind doesn't use don't count.
func TestApplyFields(t *testing.T) {
	in := val("[1]")
	m := machine(task("T", ""), pass("A", ""), api.State{Name: "W", Type: api.Wait, WaitKind: 1}, parallel("P", ""))
	junk := func(e api.Event, time, outcome bool) api.Event {
		e.Machine, e.Input, e.Fuel = "\xff", "\xff", -1
		if time {
			e.Time = -5
		}
		if outcome {
			e.Outcome = api.Outcome{Fine: true, Value: api.Value{Kind: 9}, Error: "\xff"}
		}
		return e
	}
	for i, x := range []struct {
		f             api.Frame
		e             api.Event
		time, outcome bool
	}{
		{at("T"), event(api.EvAsked), true, true}, {at("A"), event(api.EvMoved), true, true}, {phased(at("P"), api.Fanned), event(api.EvJoined), true, true},
		{phased(at("T"), api.Asked), toldEvent(fine("7")), true, false}, {phased(at("T"), api.Asked), toldEvent(wrong("e", "c")), true, false},
		{phased(at("T"), api.Delayed), timed(api.EvSet, 5), false, true}, {at("W"), timed(api.EvSet, 5), false, true}, {phased(at("W"), api.Waiting), timed(api.EvFired, 5), false, true},
	} {
		plain := taken(t, m, in, config(x.f), x.e)
		wantConfig(t, fmt.Sprint(i), taken(t, m, in, config(x.f), junk(x.e, x.time, x.outcome)), plain)
	}
}

// TestApplyTimes holds P15.6: Time of an EvSet and an EvFired, at its bounds and beyond them.
func TestApplyTimes(t *testing.T) {
	in := val(`{"n":5,"t":"1970-01-01T00:00:20.5Z"}`)
	times := []int64{math.MinInt64, -1, 0, 1, 4, 5, 19, 20, 21, 22, last - 1, last, last + 1, math.MaxInt64}
	check := func(what string, m api.Machine, f api.Frame, kind int, least int64) {
		t.Helper()
		c := config(f)
		for _, time := range times {
			d, err := kern.Apply(m, in, c, timed(kind, time))
			if (err == nil) != (time >= least && time >= 0 && time <= last) {
				t.Errorf("%s: Time %d: %v", what, time, err)
			}
			if err != nil && (err != api.ErrEvent || !same(d, api.Config{})) {
				t.Errorf("%s: Time %d: %v, %s", what, time, err, shown(d))
			}
			if err == nil && kind == api.EvSet && (d.Frames[0].Due != time || d.Frames[0].Phase != api.Waiting || d.Frames[0].Back != (f.Phase == api.Delayed)) {
				t.Errorf("%s: Time %d: %s", what, time, shown(d))
			}
		}
	}
	wait := func(kind int, sec int64, nano int, p string) api.Machine {
		return machine(api.State{Name: "W", Type: api.Wait, WaitKind: kind, Seconds: 7, Until: api.Instant{Sec: sec, Nano: nano}, AtPath: way(p)})
	}
	f := at("W")
	f.Raw = in
	check("Seconds", wait(1, 0, 0, "$"), f, api.EvSet, 0)
	check("SecondsPath", wait(2, 0, 0, "$.n"), f, api.EvSet, 0)
	check("Timestamp", wait(3, 20, 0, "$"), f, api.EvSet, 20)
	check("Timestamp with billionths", wait(3, 20, 1, "$"), f, api.EvSet, 21)
	check("Timestamp ahead of all", wait(3, -7, 0, "$"), f, api.EvSet, 0)
	check("Timestamp behind all", wait(3, last+5, 0, "$"), f, api.EvSet, last)
	check("Timestamp behind all by billionths", wait(3, last, 1, "$"), f, api.EvSet, last)
	check("the last Timestamp", wait(3, math.MaxInt64, 5, "$"), f, api.EvSet, last)
	check("Timestamp at the last tick", wait(3, last-1, 1, "$"), f, api.EvSet, last)
	check("TimestampPath", wait(4, 0, 0, "$.t"), f, api.EvSet, 21)
	f = phased(at("T"), api.Delayed)
	f.Delay = 100
	check("Delayed", machine(task("T", "")), f, api.EvSet, 0)
	for _, due := range []int64{math.MinInt64, -1, 0, 1, 20, 21, last, last + 1, math.MaxInt64} {
		f, b := phased(at("W"), api.Waiting), phased(at("T"), api.Waiting)
		f.Due, b.Due, b.Back = due, due, true
		check(fmt.Sprint("Waiting till ", due), wait(1, 0, 0, "$"), f, api.EvFired, due)
		check(fmt.Sprint("Waiting for a retry till ", due), machine(task("T", "")), b, api.EvFired, due)
	}
}

// outcomes are some, with what they are as they are taken.
func outcomes() []struct{ given, taken api.Outcome } {
	list := api.Value{Kind: api.List}
	deep := func(n int) api.Value {
		v := val("1")
		for range n {
			v = api.Value{Kind: api.List, List: []api.Value{v}}
		}
		return v
	}
	long := func(n int) string { return strings.Repeat("x", n) }
	limited := api.Outcome{Error: limit}
	odd := api.Value{Kind: api.Object, Text: "t", Fields: []api.Field{{Name: "b", Value: val("1")}, {Name: "a", Value: text("\xff")}, {Name: "b", Value: val("2")}}}
	return []struct{ given, taken api.Outcome }{
		{fine("1"), fine("1")}, {fine("null"), fine("null")}, {fine(`{"a":[1,{"b":"c"}]}`), fine(`{"a":[1,{"b":"c"}]}`)},
		{api.Outcome{Fine: true, Value: list}, fine("[]")}, {api.Outcome{Fine: true}, fine("null")},
		{api.Outcome{Fine: true, Value: val("1"), Error: "e"}, fine("1")}, {api.Outcome{Fine: true, Value: val("1"), Cause: "c"}, fine("1")}, {api.Outcome{Fine: true, Value: val("1"), Error: long(api.MaxText), Cause: "\xff"}, fine("1")},
		{api.Outcome{Fine: true, Value: api.Value{Kind: 9, Text: "x"}}, fine("null")}, {api.Outcome{Fine: true, Value: api.Value{Text: "x"}}, fine("null")}, {api.Outcome{Fine: true, Value: api.Value{Kind: api.Number, Num: api.Dec{Digits: "10"}}}, fine("10")}, {api.Outcome{Fine: true, Value: api.Value{Kind: api.Number, Num: api.Dec{Neg: true}}}, fine("0")},
		{api.Outcome{Fine: true, Value: text("\xff")}, fine(`"\ufffd"`)}, {api.Outcome{Fine: true, Value: odd}, fine(`{"a":"\ufffd","b":1}`)}, {api.Outcome{Fine: true, Value: api.Value{Kind: api.Truth, List: []api.Value{{}}}}, fine("false")}, {api.Outcome{Fine: true, Value: api.Value{Kind: api.Text, Fields: []api.Field{{}}}}, fine(`""`)},
		{api.Outcome{Fine: true, Value: deep(64)}, api.Outcome{Fine: true, Value: deep(64)}}, {api.Outcome{Fine: true, Value: deep(65)}, limited},
		{api.Outcome{Fine: true, Value: text(long(api.MaxText - 2))}, api.Outcome{Fine: true, Value: text(long(api.MaxText - 2))}}, {api.Outcome{Fine: true, Value: text(long(api.MaxText - 1))}, limited}, {api.Outcome{Fine: true, Value: text(long(api.MaxText - 1)), Error: "e", Cause: "c"}, limited},
		{wrong("e", "c"), wrong("e", "c")}, {wrong("", ""), wrong("", "")}, {wrong("", "c"), wrong("", "c")}, {wrong(limit, ""), wrong(limit, "")}, {wrong(limit, "c"), wrong(limit, "c")},
		{api.Outcome{Error: "e", Value: val("1")}, wrong("e", "")}, {api.Outcome{Error: "e", Value: api.Value{Kind: 9}}, wrong("e", "")}, {api.Outcome{Error: "e", Value: api.Value{Text: "t"}}, wrong("e", "")}, {api.Outcome{Error: "e", Value: api.Value{Num: api.Dec{Exp: 1}}}, wrong("e", "")}, {api.Outcome{Error: "e", Value: api.Value{Truth: true}}, wrong("e", "")}, {api.Outcome{Error: "e", Value: deep(65)}, wrong("e", "")},
		{wrong("e\xff", "c"), wrong("e\ufffd", "c")}, {wrong("e", "\xc3"), wrong("e", "\ufffd")}, {wrong("é", "\U0001F600"), wrong("é", "\U0001F600")}, {wrong("\xed\xa0\x80", ""), wrong("\ufffd\ufffd\ufffd", "")},
		{wrong(long(api.MaxText), ""), wrong(long(api.MaxText), "")}, {wrong("", long(api.MaxText)), wrong("", long(api.MaxText))}, {wrong("e", long(api.MaxText-1)), wrong("e", long(api.MaxText-1))}, {wrong("e", long(api.MaxText)), limited}, {wrong(long(api.MaxText+1), ""), limited}, {wrong("", long(api.MaxText+1)), limited}, {wrong(long(api.MaxText/2+1), long(api.MaxText/2)), limited},
		{wrong("\xff", long(api.MaxText-3)), wrong("\ufffd", long(api.MaxText-3))}, {wrong("\xff", long(api.MaxText-2)), limited}, {wrong("e", strings.Repeat("\xff", api.MaxText/3)), wrong("e", strings.Repeat("\ufffd", api.MaxText/3))}, {wrong("ef", strings.Repeat("\xff", api.MaxText/3)), limited},
	}
}

// TestOutcomes holds P15.5, P15.6: an outcome as it is taken; Apply takes none that is told otherwise.
func TestOutcomes(t *testing.T) {
	m := machine(task("T", ""))
	c := config(phased(at("T"), api.Asked))
	for i, x := range outcomes() {
		e, err := kern.Next(m, val("1"), c, 0, 5, x.given)
		if err != nil || !same(e, toldEvent(x.taken)) {
			t.Errorf("%d: Next: %.300v, %v", i, e, err)
		}
		d, err := kern.Apply(m, val("1"), c, toldEvent(x.given))
		if alike := same(x.given, x.taken); (err == nil) != alike || err != nil && (err != api.ErrEvent || !same(d, api.Config{})) {
			t.Errorf("%d: Apply: %v, told alike %v", i, err, alike)
		}
		d = taken(t, m, val("1"), c, toldEvent(x.taken))
		if f := d.Frames[0]; x.taken.Fine && (f.Phase != api.Done || !same(f.Result, json.Norm(x.taken.Value))) || !x.taken.Fine && (f.Phase != api.Failed || f.Error != x.taken.Error || f.Cause != x.taken.Cause) {
			t.Errorf("%d: applied: %.300s", i, shown(d))
		}
	}
}

// TestOutcomesToldOtherwise holds P15.7: as it is taken means told alike, field by field, deep within too.
func TestOutcomesToldOtherwise(t *testing.T) {
	m := machine(task("T", ""))
	c := config(phased(at("T"), api.Asked))
	whole := func() api.Value { return val(`{"a":[1,{"b":"c"},true,null,[]],"z":{}}`) }
	taken(t, m, val("1"), c, toldEvent(api.Outcome{Fine: true, Value: whole()}))
	for i, change := range []func(v *api.Value){
		func(v *api.Value) { v.Truth = true },
		func(v *api.Value) { v.Text = "x" },
		func(v *api.Value) { v.Num.Exp = 1 },
		func(v *api.Value) { v.List = []api.Value{{}} },
		func(v *api.Value) { v.Fields[0], v.Fields[1] = v.Fields[1], v.Fields[0] },
		func(v *api.Value) { v.Fields[1].Name = "a" },
		func(v *api.Value) { v.Fields[1].Name = "z\xff" },
		func(v *api.Value) { v.Fields[0].Value.Text = "x" },
		func(v *api.Value) { v.Fields[0].Value.List[0].Num.Digits = "10" },
		func(v *api.Value) { v.Fields[0].Value.List[0].Num.Digits = "01" },
		func(v *api.Value) { v.Fields[0].Value.List[0].Num.Digits = "1 " },
		func(v *api.Value) { v.Fields[0].Value.List[0].Num.Exp = 10000 },
		func(v *api.Value) { v.Fields[0].Value.List[0].Text = "1" },
		func(v *api.Value) { v.Fields[0].Value.List[1].Fields[0].Value.Text = "\xff" },
		func(v *api.Value) { v.Fields[0].Value.List[1].Fields[0].Value.Truth = true },
		func(v *api.Value) { v.Fields[0].Value.List[2].Num.Neg = true },
		func(v *api.Value) { v.Fields[0].Value.List[3].Kind = -1 },
		func(v *api.Value) { v.Fields[0].Value.List[3].Fields = []api.Field{{}} },
		func(v *api.Value) { v.Fields[1].Value.List = []api.Value{{}} },
	} {
		v := whole()
		change(&v)
		refused(t, m, val("1"), c, toldEvent(api.Outcome{Fine: true, Value: v}))
		e, d := goes(t, m, val("1"), c, 0, 0, api.Outcome{Fine: true, Value: v})
		if !same(e.Outcome.Value, json.Norm(v)) || d.Frames[0].Phase != api.Done {
			t.Errorf("%d: %+v", i, e)
		}
	}
	v := whole() // a nil list and an empty one are the same
	v.List, v.Fields[0].Value.List[4].List, v.Fields[1].Value.Fields = []api.Value{}, []api.Value{}, []api.Field{}
	taken(t, m, val("1"), c, toldEvent(api.Outcome{Fine: true, Value: v}))
	taken(t, m, val("1"), c, toldEvent(api.Outcome{Error: "e", Value: api.Value{List: []api.Value{}, Fields: []api.Field{}}}))
}

// TestWhatCounts holds what counts of a frame: all else may be told, and is zero behind an event of another frame.
func TestWhatCounts(t *testing.T) {
	part := machine(task("T", ""), pass("A", ""), api.State{Name: "W", Type: api.Wait, WaitKind: 1}, parallel("P", ""))
	m := machine(parallel("P", "", part, part))
	for i, x := range []struct {
		at    string
		phase int
		back  bool
		keeps func(f, from *api.Frame)
	}{
		{"T", api.Ready, false, func(f, from *api.Frame) {}},
		{"T", api.Asked, false, func(f, from *api.Frame) {}},
		{"T", api.Delayed, false, func(f, from *api.Frame) { f.Delay, f.Back = from.Delay, true }},
		{"T", api.Delayed, true, func(f, from *api.Frame) { f.Delay, f.Back = from.Delay, true }},
		{"W", api.Waiting, false, func(f, from *api.Frame) { f.Due = from.Due }},
		{"T", api.Waiting, true, func(f, from *api.Frame) { f.Due, f.Back = from.Due, true }},
		{"P", api.Fanned, false, func(f, from *api.Frame) {}},
		{"A", api.Done, false, func(f, from *api.Frame) { f.Result = json.Norm(from.Result) }},
	} {
		for _, index := range []int{math.MinInt, -2, -1, 0, 7} {
			odd := func(digits string) api.Value {
				return api.Value{Kind: api.List, Text: "x", List: []api.Value{{Kind: api.Number, Num: api.Dec{Digits: digits}}, {Kind: 9}}}
			}
			full := api.Frame{Place: []int{1, 1, 0}, At: x.at, Visit: 0, Attempt: 1 << 40, Left: 65536, Raw: odd("10"), Phase: x.phase, Charged: []int{-1, 5, 7}, Delay: -7, Due: -8, Back: x.back, Item: odd("20"), Index: index, Result: odd("30"), Error: "e\xff", Cause: "c\xff"}
			c := config(phased(at("P"), api.Fanned), full, at("T", 1, 1, 1))
			want := api.Frame{Place: []int{1, 1, 0}, At: x.at, Visit: 0, Attempt: 1 << 40, Left: 65536, Raw: json.Norm(odd("10")), Phase: x.phase, Charged: []int{-1, 5, 7}, Index: -1}
			if index >= 0 {
				want.Index, want.Item = index, json.Norm(odd("20"))
			}
			x.keeps(&want, &full)
			d := taken(t, m, val("1"), c, event(api.EvAsked, 1, 1, 1))
			wantConfig(t, fmt.Sprint(i), d, config(phased(at("P"), api.Fanned), want, phased(at("T", 1, 1, 1), api.Asked)))
		}
	}
}

// TestNextOfNone holds P15.5: i is among the turns.
func TestNextOfNone(t *testing.T) {
	m := nested()
	c := nestedConfig()
	c.Frames[5].Due = 20
	for _, i := range []int{math.MinInt, -1, 0, 1, 4, 5, 7, 8, math.MaxInt} {
		if e, err := kern.Next(m, val("1"), c, i, 19, fine("1")); err != api.ErrEvent || !same(e, api.Event{}) {
			t.Errorf("Next of %d: %+v, %v", i, e, err)
		}
	}
	for i, want := range map[int]api.Event{2: toldEvent(fine("1"), 1, 1, 0, 1, 1, 0), 3: timed(api.EvSet, 20, 1, 1, 0, 1, 1, 1), 5: timed(api.EvFired, 20, 1, 1, 1), 6: timed(api.EvSet, 20, 1, 1, 2)} {
		if e, err := kern.Next(m, val("1"), c, i, 20, fine("1")); err != nil || !same(e, want) {
			t.Errorf("Next of %d: %+v, %v, want %+v", i, e, err, want)
		}
	}
}
