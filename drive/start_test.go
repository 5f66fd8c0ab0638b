package drive_test

import (
	"math"
	"strings"
	"testing"

	"voyage/api"
	"voyage/disk"
)

// badMachines are texts that tell no machine, and how that is told.
func badMachines() map[string]api.Fault {
	state := func(s string) string { return `{"StartAt":"a","States":{"a":` + s + `}}` }
	return map[string]api.Fault{
		"":                                  {Err: api.ErrDue},
		"{":                                 {At: 1, Err: api.ErrDue},
		"[]":                                {Where: "$", Err: api.ErrKind},
		"{} x":                              {At: 3, Err: api.ErrDue},
		"{}":                                {Where: "$.StartAt", Err: api.ErrLacks},
		`{"a":1,"a":2}`:                     {At: 7, Err: api.ErrTwice},
		state(`{"Type":"Go"}`):              {Where: "$.States.a.Type", Err: api.ErrRange},
		state(`{"Type":"Pass","Next":"b"}`): {Where: "$.States.a.Next", Err: api.ErrTarget},
		`{"StartAt":"b","States":{"a":{"Type":"Pass","Next":"c"}}}`: {Where: "$.StartAt", Err: api.ErrTarget}, // the first of three
		state(`{"Type":"Pass","Next":"a"}`):                         {Where: "$.States.a", Err: api.ErrReach},
		state(`{"Type":"Parallel","End":true,"Branches":[]}`):       {Where: "$.States.a.Branches", Err: api.ErrRange},
		strings.Repeat(" ", api.MaxText+1):                          {Err: api.ErrLong},
		strings.Repeat("[", api.MaxDepth+1):                         {At: api.MaxDepth, Err: api.ErrDeep},
	}
}

// badInputs are texts that tell no value.
func badInputs() map[string]api.Fault {
	return map[string]api.Fault{
		"":                                  {Err: api.ErrDue},
		"x":                                 {Err: api.ErrDue},
		"[1,]":                              {At: 3, Err: api.ErrDue},
		`"ab`:                               {At: 3, Err: api.ErrText},
		"01":                                {Err: api.ErrNumber},
		"[1e10000]":                         {At: 1, Err: api.ErrExponent},
		strings.Repeat("1", api.MaxText+1):  {Err: api.ErrLong},
		strings.Repeat("[", api.MaxDepth+1): {At: api.MaxDepth, Err: api.ErrDeep},
	}
}

// TestStartFaults holds P17.3 of each kind of fault, alone and with another one behind it, in its order; nothing is written then, and the engine can still be started.
func TestStartFaults(t *testing.T) {
	d := disk.New()
	e := opened(t, d, nil)
	d.Arm(1)
	for machine, want := range badMachines() {
		wantFault(t, cut(machine), e.Start(machine, taskInput, 5), want)
		wantFault(t, cut(machine), e.Start(machine, "x", 5), want)
		wantError(t, cut(machine), e.Start(machine, taskInput, 0), api.ErrArg)
		wantError(t, cut(machine), e.Start(machine, "x", api.MaxFuel+1), api.ErrArg)
	}
	for input, want := range badInputs() {
		wantFault(t, cut(input), e.Start(taskMachine, input, 5), want)
		wantError(t, cut(input), e.Start(taskMachine, input, -1), api.ErrArg)
	}
	wantBlank(t, e)
	wantNotEnded(t, e, nil)
	if !d.Up() || len(d.Bytes()) != 0 {
		t.Fatal("something was written")
	}
	d.Arm(0)
	wantError(t, "Start", e.Start(taskMachine, taskInput, 5), nil)
	for machine := range badMachines() {
		wantError(t, "started", e.Start(machine, "x", 0), api.ErrState)
	}
	wantHistory(t, e, begun(taskMachine, taskInput, 5))
}

// TestStartFuel holds P17.3 of fuels.
func TestStartFuel(t *testing.T) {
	for _, fuel := range []int{1, 2, api.MaxFuel} {
		e, d := started(t, nil, taskMachine, taskInput, fuel)
		wantRoot(t, e, fuel, api.Frame{At: "a", Visit: 1, Attempt: 1, Left: fuel - 1, Raw: val("7"), Index: -1})
		wantHistory(t, e, begun(taskMachine, taskInput, fuel))
		wantAlike(t, e, d)
	}
	for _, fuel := range []int{0, -1, api.MaxFuel + 1, math.MaxInt, math.MinInt} {
		e := opened(t, disk.New(), nil)
		wantError(t, "fuel", e.Start(taskMachine, taskInput, fuel), api.ErrArg)
		wantBlank(t, e)
	}
}

// TestStartKeepsTexts holds P17.3: texts are kept as they were told, and the whole beginning is safe.
func TestStartKeepsTexts(t *testing.T) {
	machine, input := " "+taskMachine+"\n", "\t{\"b\": 1.50, \"a\": \"\\u00e9\" } "
	e, d := started(t, nil, machine, input, 9)
	wantHistory(t, e, begun(machine, input, 9))
	wantFile(t, d, written(begun(machine, input, 9)))
	wantRoot(t, e, 9, api.Frame{At: "a", Visit: 1, Attempt: 1, Left: 8, Raw: val(`{"a":"é","b":1.5}`), Index: -1})
	wantAlike(t, e, d)
}

// TestStartGreat holds P17.3 of texts as long as may be; of an input whose value isn't sound the run says what kern does.
func TestStartGreat(t *testing.T) {
	pad := strings.Repeat(" ", api.MaxText)
	machine, input := taskMachine+pad[len(taskMachine):], "["+strings.Repeat("10,", (api.MaxText-4)/3)+"1]"
	e, d := started(t, nil, machine, input+pad[len(input):], 5)
	wantAlike(t, e, d)
	steps(t, e, 0, 0, event(api.EvMoved)) // told as 1e1 each, the input is too long
	wantEnded(t, e, api.Report{Error: "States.DataLimitExceeded"})
}

// TestStartPower holds P17.3 where the power goes in the Add and in the Sync: the engine is dead, and isn't started.
func TestStartPower(t *testing.T) {
	file := written(begun(taskMachine, taskInput, 5))
	for act := 1; act <= 2; act++ {
		for _, keep := range []int{0, 1, len(file) - 1, len(file), len(file) + 1} {
			d := disk.New()
			e := opened(t, d, nil)
			d.Arm(act)
			wantError(t, "Start", e.Start(taskMachine, taskInput, 5), api.ErrDown)
			if d.Up() || len(d.Bytes()) != len(file) || d.Synced() != 0 {
				t.Fatalf("act %d: %d bytes, %d safe, power %v", act, len(d.Bytes()), d.Synced(), d.Up())
			}
			wantBlank(t, e)
			wantNotEnded(t, e, api.ErrDown)
			noStep(t, e, 0, 0, api.ErrDown)
			wantError(t, "Start again", e.Start(taskMachine, taskInput, 0), api.ErrDown)
			d.Crash(keep, -1, 0)
			wantError(t, "Start of a dead engine, the power back", e.Start(taskMachine, taskInput, 5), api.ErrDown)
			wantFile(t, d, file[:min(keep, len(file))])
			want := wholeOf(d.Bytes(), good()[:1])
			e = opened(t, d, nil)
			wantHistory(t, e, want...)
			if len(want) == 0 {
				wantError(t, "Start of another", e.Start(taskMachine, "8", 6), nil)
			}
			wantSynced(t, d, true)
		}
	}
}

// TestStartActs holds P17.3: two acts are done, no more.
func TestStartActs(t *testing.T) {
	d := disk.New()
	e := opened(t, d, nil)
	d.Arm(3)
	wantError(t, "Start", e.Start(taskMachine, taskInput, 5), nil)
	wantError(t, "a third act", d.Sync(), api.ErrDown)
	wantHistory(t, e, begun(taskMachine, taskInput, 5))
}
