package world_test

import (
	"fmt"
	"math"
	"math/rand"
	"strings"

	"voyage/api"
)

// oneOf picks one of these.
func oneOf[T any](r *rand.Rand, items ...T) T { return items[r.Intn(len(items))] }

// maybe is true once in so many times.
func maybe(r *rand.Rand, times int) bool { return r.Intn(times) == 0 }

// randomInput has what the random machines look for: a number n, a list l and a moment t.
func randomInput(r *rand.Rand) string {
	return fmt.Sprintf(`{"n":%d,"l":%s,"t":"1970-01-01T00:00:%02d%sZ","e":"x"}`, r.Intn(4), oneOf(r, "[]", "[1]", "[3,1]", "[2,1]", `[{"n":1},2,"x"]`, "[0,1,2,3]"), r.Intn(30), oneOf(r, "", ".5"))
}

// maker makes machines that hang together.
type maker struct {
	r    *rand.Rand
	sure bool // the error States.Runtime comes of nothing in them
	few  bool // of few states
}

// machine is the text of one: its states lead to one another in a row, and here and there somewhere else.
func (m maker) machine(deep int) string {
	n := 1 + m.r.Intn(4)
	if m.few {
		n = 1 + m.r.Intn(2)
	}
	var states []string
	for i := range n {
		states = append(states, fmt.Sprintf(`"s%d":%s`, i, m.state(deep, i, n)))
	}
	return `{"StartAt":"s0","States":{` + strings.Join(states, ",") + `}}`
}

// some gives one of these, or, if they bring about States.Runtime here and there, of the sure ones.
func (m maker) some(sure []string, others ...string) string {
	if !m.sure {
		sure = append(sure, others...)
	}
	return oneOf(m.r, sure...)
}

// state is the text of state i of n.
func (m maker) state(deep, i, n int) string {
	r := m.r
	next := `"End":true`
	if i+1 < n {
		next = fmt.Sprintf(`"Next":"s%d"`, i+1)
	}
	anyState := func() string { return fmt.Sprintf("s%d", r.Intn(n)) }
	ways := oneOf(r, "", "", "", `,"ResultPath":"$.r"`, `,"ResultPath":"$.r"`, `,"ResultPath":null`, `,"ResultPath":"$.n.x"`)
	tries := ways + m.tries(anyState)
	kinds := []string{"Pass", "Task", "Task", "Wait", "Choice", "Parallel", "Parallel", "Parallel", "Map", "Map"}
	if i+1 == n {
		kinds = []string{"Pass", "Task", "Task", "Wait", "Succeed", "Fail", "Fail", "Parallel", "Parallel", "Map"}
	}
	if deep == 0 {
		kinds = kinds[:5]
		if i+1 == n {
			kinds = []string{"Pass", "Task", "Task", "Task", "Wait", "Succeed", "Fail", "Fail"}
		}
	}
	switch kind := oneOf(r, kinds...); kind {
	case "Pass":
		return fmt.Sprintf(`{"Type":"Pass",%s%s%s}`, next, ways, m.some([]string{"", `,"Result":5`, `,"Parameters":{"k.$":"$$.State.Name"}`}, `,"InputPath":"$.e"`))
	case "Task":
		return fmt.Sprintf(`{"Type":"Task","Resource":"%s",%s%s}`, oneOf(r, "r", "r", "s", "t"), next, tries)
	case "Wait":
		return fmt.Sprintf(`{"Type":"Wait",%s,%s}`, m.some([]string{`"Seconds":0`, `"Seconds":3`, `"SecondsPath":"$$.Execution.Input.n"`, `"Timestamp":"1970-01-01T00:00:07Z"`, `"TimestampPath":"$$.Execution.Input.t"`}, `"SecondsPath":"$.e"`), next)
	case "Choice":
		return fmt.Sprintf(`{"Type":"Choice","Choices":[{"Variable":"$$.Execution.Input.n","NumericEquals":%d,"Next":"%s"},%s"Next":"%s"}],"Default":"s%d"}`, r.Intn(4), anyState(), m.some([]string{`{"Variable":"$$.Execution.Input.e","IsString":false,`}, `{"Variable":"$.e","IsString":true,`), anyState(), i+1)
	case "Parallel":
		var branches []string
		for range 1 + r.Intn(3) {
			branches = append(branches, m.machine(deep-1))
		}
		return fmt.Sprintf(`{"Type":"Parallel","Branches":[%s],%s%s}`, strings.Join(branches, ","), next, tries)
	case "Map":
		return fmt.Sprintf(`{"Type":"Map","ItemsPath":"$$.Execution.Input.l","MaxConcurrency":%d,"Iterator":%s,%s%s}`, r.Intn(3), m.iterator(deep-1), next, tries)
	case "Fail":
		return fmt.Sprintf(`{"Type":"Fail","Error":"%s","Cause":"c"}`, oneOf(r, "e", "f", "g"))
	}
	return `{"Type":"Succeed"}`
}

// iterator is the text of a Map's machine: any one, or one that FAILS of some items alone.
func (m maker) iterator(deep int) string {
	if maybe(m.r, 2) {
		return m.machine(deep)
	}
	return fmt.Sprintf(`{"StartAt":"c","States":{
		"c":{"Type":"Choice","Choices":[{"Variable":"$$.Map.Item.Index","NumericGreaterThan":0,"Next":"%s"},
			{"Variable":"$$.Map.Item.Index","NumericLessThan":0,"Next":"d"},{"Variable":"$$.Map.Item.Index","NumericLessThan":0,"Next":"y"}],"Default":"%s"},
		"d":{"Type":"Pass","End":true},"x":{"Type":"Fail","Error":"%s"},"y":{"Type":"Task","Resource":"t","Next":"x"}}}`,
		oneOf(m.r, "d", "x", "y"), oneOf(m.r, "d", "d", "y"), oneOf(m.r, "e", "f"))
}

// tries are retriers and catchers.
func (m maker) tries(anyState func() string) string {
	r := m.r
	names := func() string {
		return m.some([]string{`["e"]`, `["f"]`, `["e","g"]`}, `["States.ALL"]`, `["f","States.Runtime"]`, `["States.TaskFailed"]`)
	}
	retry, caught := "", ""
	if maybe(r, 2) {
		retry = fmt.Sprintf(`,"Retry":[{"ErrorEquals":%s,"IntervalSeconds":%d,"MaxAttempts":%d,"BackoffRate":%s}]`, names(), 1+r.Intn(3), r.Intn(3), oneOf(r, "1", "2", "1.5"))
	}
	if maybe(r, 3) {
		caught = fmt.Sprintf(`,"Catch":[{"ErrorEquals":%s,"Next":"%s"%s}]`, names(), anyState(), oneOf(r, "", `,"ResultPath":"$.c"`))
	}
	return retry + caught
}

func randomAnswers(r *rand.Rand) []api.Answer {
	var l []api.Answer
	for range r.Intn(6) {
		o := oneOf(r, fine(randomInput(r)), fine("5"), fine("[1,[2,{}]]"), wrong("e", "c"), wrong("f", ""), wrong("g", ""), wrong("e\xff", "\xff"))
		l = append(l, answer(oneOf(r, "r", "r", "s", "t"), r.Intn(3), o))
	}
	return l
}

// beginnings is what a run begins with.
type beginnings struct {
	answers        []api.Answer
	machine, input string
	fuel           int
}

// randomBeginning is one of a machine that hangs together, deep at most so much.
func randomBeginning(r *rand.Rand, deep int) beginnings {
	return beginnings{randomAnswers(r), maker{r: r}.machine(r.Intn(deep + 1)), randomInput(r), 1 + r.Intn(12)}
}

// start is the act that starts it.
func (b beginnings) start() api.Act { return starts(b.machine, b.input, b.fuel) }

// spoilt is the act that starts it, with something wrong.
func (b beginnings) spoilt(r *rand.Rand) api.Act {
	switch r.Intn(5) {
	case 0:
		b.fuel = oneOf(r, 0, -1, api.MaxFuel+1, math.MaxInt)
	case 1:
		b.input = oneOf(r, "", "x", "[1,", `"`, "01")
	case 2:
		b.machine = b.machine[:r.Intn(len(b.machine))]
	case 3:
		b.machine = strings.Replace(b.machine, `"Type":"`, oneOf(r, `"Type":"X`, `"Kind":1,"Type":"`), 1)
	case 4:
		b.machine = strings.Replace(b.machine, `"StartAt":"s0"`, `"StartAt":"gone"`, 1)
	}
	return b.start()
}

// randomCrash is a restart; the power may go again in it.
func randomCrash(r *rand.Rand) api.Act {
	a := restarts(oneOf(r, 0, -1, r.Intn(80), r.Intn(80), r.Intn(400), 1<<20), oneOf(r, -1, -1, r.Intn(400), r.Intn(4000)), oneOf(r, r.Uint32(), 1, 1<<31, math.MaxUint32, 0))
	if maybe(r, 2) {
		a.N = oneOf[int64](r, 1, 1, 1, 1, 2, 3, 0, -1, 1<<31+1, math.MaxInt64)
	}
	return a
}

// randomAct is one of a run that has begun so, mostly a step.
func randomAct(r *rand.Rand, b beginnings) api.Act {
	switch r.Intn(26) {
	case 0:
		return oneOf(r, b.start(), b.spoilt(r))
	case 1:
		return ends()
	case 2:
		return arms(oneOf[int64](r, 1, 2, 3, 4, 5, 9, 0, -1, 1<<31+1))
	case 3, 4:
		return randomCrash(r)
	case 5, 6:
		return goes(oneOf[int64](r, 0, 1, 1, 2, 3, 5, -1))
	case 7, 8, 9, 10:
		return ticks(oneOf[int64](r, 0, 1, 1, 2, 2, 3, 5, -1))
	case 11:
		return oneOf(r, ticks(api.MaxTime+1), ticks(math.MinInt64), api.Act{}, api.Act{Kind: 8, N: 3}, api.Act{Kind: -1}, ends(), ends())
	case 12:
		return steps(oneOf[int64](r, -1, math.MinInt64, math.MaxInt64, 1000))
	}
	return steps(int64(r.Intn(7)))
}
