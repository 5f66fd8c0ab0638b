package drive_test

import (
	"strings"
	"testing"

	"voyage/api"
	"voyage/drive"
)

func key(resource string, attempt int) api.Key {
	return api.Key{Visit: 1, Attempt: attempt, Resource: resource, Input: val("1")}
}

func wantOutcome(t *testing.T, what string, got, want api.Outcome) {
	t.Helper()
	if !same(got, want) {
		t.Fatalf("%s: %+v, not %+v", what, got, want)
	}
}

// TestAnswers holds P17.2: the first answer that fits is that of a key.
func TestAnswers(t *testing.T) {
	tasks := drive.Answers([]api.Answer{
		answer("r", 2, wrong("second", "c")),
		answer("s", 0, fine("1")),
		answer("r", 0, fine("2")),
		answer("r", 3, fine("3")),
		answer("s", 1, fine("4")),
		answer("r\xff", 1, fine("5")),
		answer("", 1, fine("6")),
	})
	nobody := wrong(taskFailed, "")
	for _, c := range []struct {
		key  api.Key
		want api.Outcome
	}{
		{key("r", 1), fine("2")}, {key("r", 2), wrong("second", "c")}, {key("r", 3), fine("2")}, {key("r", 1<<40), fine("2")},
		{key("s", 1), fine("1")}, {key("s", 2), fine("1")},
		{key("r\xff", 1), fine("5")}, {key("r\xff", 2), nobody}, {key("r\uFFFD", 1), nobody}, // resources are the same bytes, or others
		{key("", 1), fine("6")}, {key("", 2), nobody}, {key("R", 1), nobody}, {key("rr", 1), nobody}, {key("t", 0), nobody},
	} {
		wantOutcome(t, c.key.Resource, tasks.Do(c.key), c.want)
		wantOutcome(t, "a second time: "+c.key.Resource, tasks.Do(c.key), c.want)
	}
}

// TestAnswersOfNone holds P17.2 of a list that is empty or nil.
func TestAnswersOfNone(t *testing.T) {
	for _, l := range [][]api.Answer{nil, {}} {
		tasks := drive.Answers(l)
		if tasks == nil {
			t.Fatal("nil tasks")
		}
		wantOutcome(t, "none", tasks.Do(key("r", 1)), wrong(taskFailed, ""))
	}
}

// TestAnswersForm holds that an outcome is told as it is, its value in the one form, and though it be too deep; what is taken of it kern says.
func TestAnswersForm(t *testing.T) {
	deep := val("1")
	for range api.MaxDepth + 1 {
		deep = api.Value{Kind: api.List, List: []api.Value{deep}}
	}
	odd := api.Value{Kind: api.Object, Text: "x", Fields: []api.Field{{Name: "n", Value: api.Value{Kind: api.Number, Num: api.Dec{Digits: "0x10", Exp: -1}}}, {Name: "n"}}}
	tasks := drive.Answers([]api.Answer{
		answer("odd", 0, api.Outcome{Fine: true, Value: odd}),
		answer("deep", 0, api.Outcome{Fine: true, Value: deep}),
		answer("wrong", 0, wrong("e\xff", "\xfe")),
	})
	wantOutcome(t, "odd", tasks.Do(key("odd", 1)), fine(`{"n":1}`))
	wantOutcome(t, "deep", tasks.Do(key("deep", 1)), api.Outcome{Fine: true, Value: deep})
	wantOutcome(t, "wrong", tasks.Do(key("wrong", 1)), wrong("e\xff", "\xfe"))
}

// TestOutcomesAreTaken holds that a step takes what tasks answer as kern does.
func TestOutcomesAreTaken(t *testing.T) {
	long := strings.Repeat("x", api.MaxText)
	deep := val("1")
	for range api.MaxDepth + 1 {
		deep = api.Value{Kind: api.List, List: []api.Value{deep}}
	}
	tooMuch := wrong("States.DataLimitExceeded", "")
	for what, c := range map[string]struct{ answers, want api.Outcome }{
		"a kind that is none":   {api.Outcome{Fine: true, Value: api.Value{Kind: 9}, Error: "e", Cause: "c"}, fine("null")},
		"not in UTF-8":          {wrong("e\xff", "\xfe"), wrong("e\uFFFD", "\uFFFD")},
		"an error with a value": {api.Outcome{Value: val("3"), Error: "e"}, wrong("e", "")},
		"an error of no name":   {wrong("", ""), wrong("", "")},
		"too deep":              {api.Outcome{Fine: true, Value: deep}, tooMuch},
		"too long a text":       {api.Outcome{Fine: true, Value: api.Value{Kind: api.Text, Text: long}}, tooMuch},
		"too long an error":     {wrong(long, "c"), tooMuch},
		"as long as may be":     {wrong(long[1:], "c"), wrong(long[1:], "c")},
	} {
		for _, tasks := range []drive.Tasks{
			&clerk{does: func(api.Key) api.Outcome { return c.answers }},
			drive.Answers([]api.Answer{answer("r", 1, c.answers)}),
		} {
			e, d := started(t, tasks, taskMachine, taskInput, 5)
			steps(t, e, 0, 0, event(api.EvAsked))
			x, err := e.Step(0, 0)
			if err != nil || !same(x, told(c.want)) {
				t.Fatalf("%s: %s, %v", what, shownEvent(x), err)
			}
			wantAlike(t, e, d)
		}
	}
}

// TestNilTasks holds P17.2: nil tasks do as answers of none.
func TestNilTasks(t *testing.T) {
	for _, tasks := range []drive.Tasks{nil, drive.Answers(nil)} {
		e, _ := started(t, tasks, taskMachine, taskInput, 5)
		steps(t, e, 0, 0, event(api.EvAsked))
		steps(t, e, 0, 0, told(wrong(taskFailed, "")))
		wantEnded(t, e, api.Report{Error: taskFailed})
	}
}
