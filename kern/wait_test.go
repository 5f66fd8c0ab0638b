package kern_test

import (
	"fmt"
	"math"
	"strings"
	"testing"

	"voyage/api"
	"voyage/kern"
)

const last = api.MaxTime

// wantSet wants the time of a Wait's EvSet at some now; -1: there is none, and it FAILS.
func wantSet(t *testing.T, what string, s api.State, in api.Value, now, want int64) {
	t.Helper()
	s.Name, s.Type = "W", api.Wait
	s.Retry, s.Catch = []api.Retrier{retries(5, all)}, []api.Catcher{catches("W", "$", all)} // a Wait has none
	m := machine(s)
	c := kern.Begin(m, in, 5)
	if want < 0 {
		wantFailed(t, what, moves(t, m, in, c, 0, now, noOutcome, event(api.EvMoved)), "W", runtime, "")
		refused(t, m, in, c, timed(api.EvSet, last))
		return
	}
	d := moves(t, m, in, c, 0, now, fine("1"), timed(api.EvSet, want))
	f := c.Frames[0]
	f.Phase, f.Due = api.Waiting, want
	wantConfig(t, what, d, api.Config{Fuel: 5, Frames: []api.Frame{f}})
	refused(t, m, in, c, event(api.EvMoved))
}

// TestWaitSeconds holds WaitKind 1.
func TestWaitSeconds(t *testing.T) {
	for _, x := range []struct {
		seconds   int
		now, want int64
	}{
		{0, 0, 0}, {5, 0, 5}, {5, 7, 12}, {-1, 7, 7}, {math.MinInt, 7, 7}, {-7, 0, 0}, {5, -3, 5}, {5, math.MinInt64, 5}, {-5, -3, 0},
		{1, last - 1, last}, {1, last, last}, {2, last - 1, last}, {0, last + 1, last}, {5, math.MaxInt64, last}, {-5, math.MaxInt64, last},
		{last, 0, last}, {last + 1, 0, last}, {last - 1, 0, last - 1}, {1 << 62, 5, last}, {math.MaxInt, last, last}, {math.MaxInt, 0, last}, {math.MaxInt, -1, last},
	} {
		wantSet(t, fmt.Sprint(x), api.State{WaitKind: 1, Seconds: x.seconds, AtPath: way("$.q"), Until: api.Instant{Sec: 99}}, val("1"), x.now, x.want)
	}
}

// TestWaitSecondsPath holds WaitKind 2: a whole number, 0 to MaxDelay.
func TestWaitSecondsPath(t *testing.T) {
	for text, want := range map[string]int64{
		"0": 3, "-0": 3, "5": 8, "5.0": 8, "500e-2": 8, "1e3": 1003, "2147483648": 2147483651, "2147483647": 2147483650,
		"-1": -1, "0.5": -1, "5.5": -1, "2147483649": -1, "2147483648.5": -1, "1e10": -1, "1e9999": -1, "-1e9999": -1, "1e-9999": -1, "9223372036854775808": -1,
		`"5"`: -1, "null": -1, "true": -1, "[5]": -1, `{"a":5}`: -1,
	} {
		in := val(`{"s":` + text + `}`)
		wantSet(t, text, api.State{WaitKind: 2, AtPath: way("$.s"), Seconds: 77}, in, 3, want)
		wantSet(t, text+" of the context", api.State{WaitKind: 2, AtPath: way("$$.Execution.Input.s"), HasParameters: true, Parameters: val("{}")}, in, 3, want)
		wantSet(t, text+" behind InputPath", api.State{WaitKind: 2, AtPath: way("$"), Input: way("$.s")}, in, 3, want)
	}
	wantSet(t, "nowhere", api.State{WaitKind: 2, AtPath: way("$.q")}, val(`{"s":1}`), 3, -1)
	wantSet(t, "null", api.State{WaitKind: 2, AtPath: way("null")}, val(`1`), 3, -1)
	wantSet(t, "no path", api.State{WaitKind: 2}, val(`4`), 3, 7)
	wantSet(t, "the last tick", api.State{WaitKind: 2}, val(`4`), last-3, last)
	wantSet(t, "a now below 0", api.State{WaitKind: 2}, val(`4`), -100, 4)
}

// TestWaitUntil holds WaitKind 3: the second, or the next one, but not ahead of now.
func TestWaitUntil(t *testing.T) {
	for _, x := range []struct {
		sec  int64
		nano int
		now  int64
		want int64
	}{
		{20, 0, 5, 20}, {20, 1, 5, 21}, {20, 999999999, 5, 21}, {20, 1000000000, 5, 21}, {20, 1000000001, 5, 22}, {20, -1, 5, 20}, {20, -1000000000, 5, 19}, {20, -1000000001, 5, 19},
		{20, 0, 20, 20}, {20, 0, 21, 21}, {20, 1, 20, 21}, {20, 1, 21, 21}, {20, 1, 22, 22}, {20, 5, 100, 100},
		{0, 0, 0, 0}, {0, 1, 0, 1}, {-1, 0, 0, 0}, {-1, 1, 0, 0}, {-1, 999999999, 0, 0}, {-1, 1, 7, 7}, {-5, 0, -9, 0}, {math.MinInt64, 0, 0, 0}, {math.MinInt64, math.MinInt, 3, 3},
		{last, 0, 0, last}, {last, 1, 0, last}, {last - 1, 1, 0, last}, {last - 1, 0, 0, last - 1}, {last + 1, 0, 0, last}, {math.MaxInt64, 0, 0, last}, {math.MaxInt64, 999999999, 0, last}, {math.MaxInt64, math.MaxInt, 9, last},
		{5, 0, math.MaxInt64, last}, {5, 0, math.MinInt64, 5}, {5, 0, -1, 5},
	} {
		wantSet(t, fmt.Sprint(x), api.State{WaitKind: 3, Until: api.Instant{Sec: x.sec, Nano: x.nano}, Seconds: 99, AtPath: way("$.q")}, val("1"), x.now, x.want)
	}
}

// TestWaitUntilPath holds WaitKind 4: the moment of a text.
func TestWaitUntilPath(t *testing.T) {
	for text, want := range map[string]int64{
		`"1970-01-01T00:00:20Z"`: 20, `"1970-01-01T00:00:20.000000001Z"`: 21, `"1970-01-01T00:00:19.5Z"`: 20, `"1970-01-01T01:00:20+01:00"`: 20, `"1970-01-01T00:00:03Z"`: 7, `"1970-01-01T00:00:06.5Z"`: 7, `"1970-01-01T00:00:07.5Z"`: 8, `"0000-01-01T00:00:00+00:01"`: 7,
		`"9999-12-31T23:59:59-00:01"`: 253402300859,
		`"1970-01-01T00:00:20"`:       -1, `""`: -1, `"20"`: -1, `20`: -1, `null`: -1, `["1970-01-01T00:00:20Z"]`: -1, `true`: -1,
	} {
		in := val(`{"s":` + text + `}`)
		wantSet(t, text, api.State{WaitKind: 4, AtPath: way("$.s"), Until: api.Instant{Sec: 99}}, in, 7, want)
		wantSet(t, text+" of the context", api.State{WaitKind: 4, AtPath: way("$$.Execution.Input.s"), HasParameters: true, Parameters: val("{}")}, in, 7, want)
	}
	wantSet(t, "nowhere", api.State{WaitKind: 4, AtPath: way("$.q")}, val(`{}`), 3, -1)
	wantSet(t, "null", api.State{WaitKind: 4, AtPath: way("null")}, val(`"1970-01-01T00:00:20Z"`), 3, -1)
	wantSet(t, "no path", api.State{WaitKind: 4}, val(`"1970-01-01T00:00:20Z"`), 3, 20)
}

// TestWaitKinds holds that other WaitKinds have no moment.
func TestWaitKinds(t *testing.T) {
	for _, kind := range []int{math.MinInt, -1, 0, 5, 6, math.MaxInt} {
		wantSet(t, fmt.Sprint(kind), api.State{WaitKind: kind, Seconds: 5}, val("5"), 3, -1)
	}
	for kind := 0; kind <= 5; kind++ { // In comes ahead of the moment
		m := machine(api.State{Name: "W", Type: api.Wait, WaitKind: kind, Input: way("$.q"), Seconds: 5, AtPath: way("$$.Execution.Input")})
		wantFailed(t, "In has an error", after(t, m, val("5"), 4), "W", runtime, "")
		m.States[0].Input, m.States[0].HasParameters, m.States[0].Parameters = api.Path{}, true, val(`{"x.$":"$.q"}`)
		wantFailed(t, "Parameters that can't be filled", after(t, m, val("5"), 4), "W", parameters, "")
		refused(t, m, val("5"), kern.Begin(m, val("5"), 4), timed(api.EvSet, 9))
	}
}

// TestWaitFires holds that behind a Wait's deadline it FINISHes with what In gives.
func TestWaitFires(t *testing.T) {
	in := val(`{"a":[1]}`)
	s := api.State{Name: "W", Type: api.Wait, WaitKind: 1, Seconds: 5, Input: way("$.a"), Output: way("$[0]"), Next: "B"}
	m := machine(s, pass("B", ""))
	c := moves(t, m, in, kern.Begin(m, in, 5), 0, 10, noOutcome, timed(api.EvSet, 15))
	wantTurns(t, m, c, 14)
	if _, err := kern.Next(m, in, c, 0, 14, noOutcome); err != api.ErrEvent {
		t.Errorf("ahead of its deadline: %v", err)
	}
	for _, now := range []int64{15, 16, last, math.MaxInt64} {
		d := moves(t, m, in, c, 0, now, fine("2"), timed(api.EvFired, min(now, last)))
		wantConfig(t, "fired", d, api.Config{Fuel: 5, Frames: []api.Frame{{At: "B", Visit: 2, Attempt: 1, Left: 3, Raw: val("1"), Index: -1}}})
	}
	f := phased(at("W"), api.Waiting)
	for raw, name := range map[string]string{`{"a":[]}`: runtime, `{}`: runtime, `{"a":[7]}`: ""} { // by hand: Out has an error, In has one
		f.Raw = val(raw)
		d := moves(t, m, in, config(f), 0, 3, noOutcome, timed(api.EvFired, 3))
		if got := d.Frames[0]; got.Error != name || name == "" && !same(got.Raw, val("7")) {
			t.Errorf("%s: %s", raw, shown(d))
		}
	}
	s.Next = ""
	wantDone(t, "a Wait at the end", ends(t, machine(s), in, 5, echo), "1")
	s.Output = way("$.q")
	wantFailed(t, "Out has an error", ends(t, machine(s), in, 5, echo), "W", runtime, "")
}

// TestDelayed holds the EvSet of a retry: now and Delay together, as a time.
func TestDelayed(t *testing.T) {
	m := machine(task("T", ""))
	for _, x := range []struct{ now, delay, want int64 }{
		{0, 0, 0}, {10, 2, 12}, {10, 0, 10}, {-5, 2, 2}, {math.MinInt64, 0, 0}, {0, 1 << 31, 1 << 31}, {last, 1, last}, {last - 1, 1, last}, {last - 1, 2, last}, {math.MaxInt64, 1, last},
		{10, -3, 7}, {10, -11, 0}, {10, math.MinInt64, 0}, {last, math.MinInt64, 0}, {10, math.MaxInt64, last}, {last, math.MaxInt64, last}, {last, -1, last - 1}, {0, last, last}, {0, last + 1, last}, {5, last - 5, last}, {5, last - 6, last - 1},
	} {
		f := phased(at("T"), api.Delayed)
		f.Delay = x.delay
		d := moves(t, m, val("1"), config(f), 0, x.now, noOutcome, timed(api.EvSet, x.want))
		f.Phase, f.Delay, f.Due, f.Back = api.Waiting, 0, x.want, true
		wantConfig(t, fmt.Sprint(x), d, config(f))
	}
}

// TestFiredBack holds the EvFired of a retry: one attempt more, Ready.
func TestFiredBack(t *testing.T) {
	part := machine(pass("A", ""))
	for _, s := range []api.State{task("T", ""), parallel("T", "", part), mapped("T", "", 0, part)} {
		s.Input = way("$.q") // In isn't asked
		f := phased(at("T"), api.Waiting)
		f.Back, f.Due, f.Attempt, f.Visit, f.Charged, f.Raw = true, 30, 4, 2, []int{3, 0}, val("[1]")
		d := moves(t, machine(s), val("1"), config(f), 0, 31, noOutcome, timed(api.EvFired, 31))
		f.Phase, f.Due, f.Back, f.Attempt = api.Ready, 0, false, 5
		wantConfig(t, "fired", d, config(f))
	}
}

// TestLongMoment holds that a text that is far too long is no moment.
func TestLongMoment(t *testing.T) {
	wantSet(t, "long", api.State{WaitKind: 4}, text("1970-01-01T00:00:20."+strings.Repeat("0", 5000)+"Z"), 3, -1)
}
