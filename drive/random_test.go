package drive_test

import (
	"fmt"
	"math"
	"math/rand"
	"strings"

	"voyage/api"
)

// oneOf picks one of these.
func oneOf[T any](r *rand.Rand, items ...T) T { return items[r.Intn(len(items))] }

// maybe is true once in so many times.
func maybe(r *rand.Rand, times int) bool { return r.Intn(times) == 0 }

// randomInput has what the random machines look for: a number n, a list l and a moment t.
func randomInput(r *rand.Rand) string {
	return fmt.Sprintf(`{"n":%d,"l":%s,"t":"1970-01-01T00:00:%02d%sZ","e":"x"}`, r.Intn(4), oneOf(r, "[]", "[1]", "[3,1]", `[{"n":1},2,"x"]`, "[0,1,2,3]"), r.Intn(30), oneOf(r, "", ".5"))
}

// randomMachine is the text of one that hangs together: its states lead to one another in a row, and here and there somewhere else.
func randomMachine(r *rand.Rand, deep int) string {
	n := 1 + r.Intn(4)
	var states []string
	for i := range n {
		states = append(states, fmt.Sprintf(`"s%d":%s`, i, randomState(r, deep, i, n)))
	}
	return `{"StartAt":"s0","States":{` + strings.Join(states, ",") + `}}`
}

// randomState is the text of state i of n.
func randomState(r *rand.Rand, deep, i, n int) string {
	next := `"End":true`
	if i+1 < n {
		next = fmt.Sprintf(`"Next":"s%d"`, i+1)
	}
	anyState := func() string { return fmt.Sprintf("s%d", r.Intn(n)) }
	ways := oneOf(r, "", "", "", `,"ResultPath":"$.r"`, `,"ResultPath":"$.r"`, `,"ResultPath":null`, `,"ResultPath":"$.n.x"`)
	tries := ways + randomTries(r, anyState)
	kinds := []string{"Pass", "Task", "Task", "Task", "Wait", "Wait", "Choice", "Parallel", "Parallel", "Map", "Map"}
	if i+1 == n {
		kinds = []string{"Pass", "Task", "Task", "Wait", "Succeed", "Fail", "Parallel", "Map"}
	}
	if deep == 0 {
		kinds = kinds[:4]
	}
	switch kind := oneOf(r, kinds...); kind {
	case "Pass":
		return fmt.Sprintf(`{"Type":"Pass",%s%s%s}`, next, ways, oneOf(r, "", `,"Result":5`, `,"Parameters":{"k.$":"$$.State.Name"}`, `,"InputPath":"$.e"`))
	case "Task":
		return fmt.Sprintf(`{"Type":"Task","Resource":"%s",%s%s}`, oneOf(r, "r", "r", "s", "t"), next, tries)
	case "Wait":
		return fmt.Sprintf(`{"Type":"Wait",%s,%s}`, oneOf(r, `"Seconds":0`, `"Seconds":3`, `"SecondsPath":"$$.Execution.Input.n"`, `"SecondsPath":"$.e"`, `"Timestamp":"1970-01-01T00:00:07Z"`, `"TimestampPath":"$$.Execution.Input.t"`), next)
	case "Choice":
		return fmt.Sprintf(`{"Type":"Choice","Choices":[{"Variable":"$$.Execution.Input.n","NumericEquals":%d,"Next":"%s"},{"Variable":"$.e","IsString":true,"Next":"%s"}],"Default":"s%d"}`, r.Intn(4), anyState(), anyState(), i+1)
	case "Parallel":
		var branches []string
		for range 1 + r.Intn(3) {
			branches = append(branches, randomMachine(r, deep-1))
		}
		return fmt.Sprintf(`{"Type":"Parallel","Branches":[%s],%s%s}`, strings.Join(branches, ","), next, tries)
	case "Map":
		return fmt.Sprintf(`{"Type":"Map","ItemsPath":"$$.Execution.Input.l","MaxConcurrency":%d,"Iterator":%s,%s%s}`, r.Intn(3), randomMachine(r, deep-1), next, tries)
	case "Fail":
		return `{"Type":"Fail","Error":"e","Cause":"c"}`
	}
	return `{"Type":"Succeed"}`
}

// randomTries are retriers and catchers.
func randomTries(r *rand.Rand, anyState func() string) string {
	names := func() string {
		return oneOf(r, `["States.ALL"]`, `["e"]`, `["f","States.Runtime"]`, `["States.TaskFailed"]`)
	}
	retry, caught := "", ""
	if maybe(r, 2) {
		retry = fmt.Sprintf(`,"Retry":[{"ErrorEquals":%s,"IntervalSeconds":%d,"MaxAttempts":%d,"BackoffRate":%s}]`, names(), 1+r.Intn(3), r.Intn(3), oneOf(r, "1", "2", "1.5"))
	}
	if maybe(r, 3) {
		caught = fmt.Sprintf(`,"Catch":[{"ErrorEquals":%s,"Next":"%s"%s}]`, names(), anyState(), oneOf(r, "", `,"ResultPath":"$.c"`))
	}
	return retry + caught
}

func randomAnswers(r *rand.Rand) []api.Answer {
	var l []api.Answer
	for range r.Intn(6) {
		o := oneOf(r, fine(randomInput(r)), fine("5"), fine("[1,[2,{}]]"), wrong("e", "c"), wrong("f", ""), wrong("g", ""), wrong("e\xff", "\xff"))
		l = append(l, answer(oneOf(r, "r", "r", "s", "t"), r.Intn(3), o))
	}
	return l
}

// randomTime is mostly near to now.
func randomTime(r *rand.Rand, now int64) int64 {
	if maybe(r, 60) {
		return oneOf[int64](r, -1, 0, math.MinInt64, api.MaxTime, api.MaxTime+1, math.MaxInt64)
	}
	return now + int64(r.Intn(5)) - 1
}

func randomPick(r *rand.Rand) int {
	if maybe(r, 9) {
		return oneOf(r, -1, -7, math.MinInt, math.MaxInt, 1000)
	}
	return r.Intn(7)
}

// randomFault spoils the beginning of a run, or doesn't.
func randomFault(r *rand.Rand, machine, input string, fuel int) (string, string, int) {
	switch r.Intn(14) {
	case 0:
		fuel = oneOf(r, 0, -1, api.MaxFuel+1, math.MaxInt)
	case 1:
		input = oneOf(r, "", "x", "[1,", `"`, "01")
	case 2:
		machine = machine[:r.Intn(len(machine))]
	case 3:
		machine = strings.Replace(machine, `"Type":"`, oneOf(r, `"Type":"X`, `"Kind":1,"Type":"`, `"Type":"`), 1)
	case 4:
		machine = strings.Replace(machine, `"StartAt":"s0"`, `"StartAt":"gone"`, 1)
		input = oneOf(r, input, "x")
	case 5:
		machine = strings.Replace(machine, `"Next":"s`, `"Next":"z`, 1)
		fuel = oneOf(r, fuel, 0)
	}
	return machine, input, fuel
}
