package dry_test

import (
	"fmt"
	"strings"
	"testing"

	"voyage/api"
)

// tries is a task of the resource r that is tried so many times more.
func tries(more int) api.Machine {
	s := task("T", "")
	s.Resource, s.Retry = "r", []api.Retrier{retries(more, all)}
	return machine(s)
}

// TestAnswers holds which answer comes of an attempt: the first of its resource that is of that attempt, or of Attempt 0.
func TestAnswers(t *testing.T) {
	e := wrong("e", "")
	for i, x := range []struct {
		l    []api.Answer
		want api.Report
	}{
		{nil, ended(taskFailed, 10)},
		{[]api.Answer{answer("r", 0, fine("7"))}, done("7", 2)},
		{[]api.Answer{answer("r", 1, fine("7"))}, done("7", 2)},
		{[]api.Answer{answer("r", 2, fine("7"))}, done("7", 6)},
		{[]api.Answer{answer("r", 3, fine("7"))}, done("7", 10)},
		{[]api.Answer{answer("r", 4, fine("7"))}, ended(taskFailed, 10)},
		{[]api.Answer{answer("r", -1, fine("7"))}, ended(taskFailed, 10)},
		{[]api.Answer{answer("s", 0, fine("7")), answer("", 0, fine("8")), answer("R", 1, fine("9")), answer("r ", 2, fine("9"))}, ended(taskFailed, 10)},
		{[]api.Answer{answer("s", 0, fine("7")), answer("r", 0, fine("8")), answer("r", 0, fine("9"))}, done("8", 2)},
		{[]api.Answer{answer("r", 0, fine("7")), answer("r", 1, fine("8"))}, done("7", 2)},
		{[]api.Answer{answer("r", 1, fine("8")), answer("r", 0, fine("7"))}, done("8", 2)},
		{[]api.Answer{answer("r", 2, fine("8")), answer("r", 0, fine("7"))}, done("7", 2)},
		{[]api.Answer{answer("r", 1, e), answer("r", 1, fine("7"))}, ended(taskFailed, 10)},
		{[]api.Answer{answer("r", 1, e), answer("r", 2, fine("7"))}, done("7", 6)},
		{[]api.Answer{answer("r", 1, e), answer("r", 0, fine("7"))}, done("7", 6)},
		{[]api.Answer{answer("r", 2, e), answer("r", 3, fine("8")), answer("r", 1, e), answer("r", 2, fine("7"))}, done("8", 10)},
		{[]api.Answer{answer("r", 0, e), answer("r", 3, fine("7"))}, ended("e", 10)},
		{[]api.Answer{answer("r", 3, wrong("g", "c")), answer("r", 0, e)}, api.Report{Error: "g", Cause: "c", Steps: 10}},
	} {
		wants(t, fmt.Sprint(i), of(tries(2), "1").answers(x.l...), x.want)
	}
	odd := machine(api.State{Name: "T", Type: api.Task, Resource: "r\xff"}) // resources are the same bytes, or others
	wants(t, "the same bytes", of(odd, "1").answers(answer("r\ufffd", 0, fine("7")), answer("r\xff", 0, fine("8"))), done("8", 2))
	wants(t, "no resource", of(machine(api.State{Name: "T", Type: api.Task}), "1").answers(answer("", 0, fine("8"))), done("8", 2))
}

// TestAnswersByVisit holds that attempts are counted anew in each visit, and that a visit doesn't matter else.
func TestAnswersByVisit(t *testing.T) {
	s := task("T", "C")
	s.Retry = []api.Retrier{retries(1, all)}
	count := gives("N", "1", "T")
	choice := api.State{Name: "C", Type: api.Choice, Rules: []api.Rule{is("$.n", "1", "E")}, Default: "N"}
	s.Result, count.Result = way("$.t"), way("$.n")
	m := machine(s, choice, count, api.State{Name: "E", Type: api.Succeed})
	l := []api.Answer{answer("rT", 1, wrong("e", "")), answer("rT", 2, fine("7"))}
	wants(t, "two visits", of(m, `{"n":0}`).answers(l...), done(`{"n":1,"t":7}`, 6+1+1+6+1+1))
	two := machine(parallel("P", "", machine(s, pass("C", "")), machine(s, pass("C", ""))))
	wants(t, "two parts", of(two, `{"n":0}`).answers(l...), done(`[{"n":0,"t":7},{"n":0,"t":7}]`, 1+7+7+1))
}

// TestOutcomes holds how an outcome is taken.
func TestOutcomes(t *testing.T) {
	deep, most := val("[]"), val("[]")
	for i := range 64 {
		deep = api.Value{Kind: api.List, List: []api.Value{deep}}
		if i < 63 {
			most = deep
		}
	}
	long := strings.Repeat("x", api.MaxText)
	odd := api.Value{Kind: api.Object, Text: "x", Fields: []api.Field{{Name: "\xff", Value: api.Value{Kind: 9}}, {Name: "a", Value: api.Value{Kind: api.Number, Num: api.Dec{Digits: "10", Exp: 20000}}}, {Name: "a", Value: val("1")}}}
	for what, x := range map[string]struct {
		o    api.Outcome
		want api.Report
	}{
		"an Error beside Fine":      {api.Outcome{Fine: true, Value: val("7"), Error: "e", Cause: "c"}, done("7", 2)},
		"a Value beside an Error":   {api.Outcome{Value: val("7"), Error: "e", Cause: "c"}, api.Report{Error: "e", Cause: "c", Steps: 2}},
		"nothing told":              {api.Outcome{}, ended("", 2)},
		"no UTF-8":                  {wrong("e\xff\xfe", "\xffc"), api.Report{Error: "e\ufffd\ufffd", Cause: "\ufffdc", Steps: 2}},
		"not in the one form":       {api.Outcome{Fine: true, Value: odd}, done(`{"a":0,"\ufffd":null}`, 2)},
		"as deep as may be":         {api.Outcome{Fine: true, Value: most}, api.Report{Fine: true, Output: most, Steps: 2}},
		"too deep":                  {api.Outcome{Fine: true, Value: deep}, ended(limit, 2)},
		"too deep, with an Error":   {api.Outcome{Fine: true, Value: deep, Error: "e", Cause: "c"}, ended(limit, 2)},
		"as long as may be":         {api.Outcome{Fine: true, Value: text(long[2:])}, api.Report{Fine: true, Output: text(long[2:]), Steps: 2}},
		"too long":                  {api.Outcome{Fine: true, Value: text(long[1:])}, ended(limit, 2)},
		"an Error as long as it is": {wrong(long, ""), api.Report{Error: long, Steps: 2}},
		"both as long as may be":    {wrong(long[9:], long[:9]), api.Report{Error: long[9:], Cause: long[:9], Steps: 2}},
		"both too long":             {wrong(long[8:], long[:9]), ended(limit, 2)},
		"a Cause too long":          {wrong("", long+"x"), ended(limit, 2)},
		"too long only in UTF-8":    {wrong("e", long[3:]+"\xff"), ended(limit, 2)},
		"not too long in UTF-8":     {wrong("e", long[4:]+"\xff"), api.Report{Error: "e", Cause: long[4:] + "\ufffd", Steps: 2}},
	} {
		wants(t, what, of(tries(0), "1").answers(answer("r", 0, x.o)), x.want)
	}
	forgets := tries(1)
	forgets.States[0].Result = way("null")
	for _, bad := range []api.Value{deep, text(long)} { // whatever would be left of it
		g := of(forgets, "1").answers(answer("r", 2, fine("7")), answer("r", 0, api.Outcome{Fine: true, Value: bad}))
		wants(t, "not sound, where it is forgotten", g, done("1", 6))
		g.l[0].Attempt = 3
		wants(t, "not sound, twice", g, ended(limit, 6))
	}
}
