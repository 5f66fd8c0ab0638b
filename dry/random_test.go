package dry_test

import (
	"fmt"
	"math/rand"
	"slices"

	"voyage/api"
)

// oneOf picks one of these.
func oneOf[T any](r *rand.Rand, items ...T) T { return items[r.Intn(len(items))] }

// maybe is true once in so many times.
func maybe(r *rand.Rand, times int) bool { return r.Intn(times) == 0 }

// randomValue has members that the random paths lead to, mostly.
func randomValue(r *rand.Rand) api.Value {
	if maybe(r, 9) {
		return val(oneOf(r, "null", "1", "[]", "[1,[2],{}]", `"1970-01-01T00:00:09Z"`, "{}", `"x"`, "true", "2.5", "-1"))
	}
	return val(fmt.Sprintf(`{"n":%d,"l":%s,"t":%s,"o":{"n":%d,"l":[%d]}}`, r.Intn(4), oneOf(r, "[]", "[1]", "[3,1]", `[{"n":1,"l":[2,3]},{"n":2,"l":[]}]`, `["a",{"n":0,"l":[1]},null]`, "[0,1,2,3]"), oneOf(r, `"1970-01-01T00:00:12.5Z"`, `"1970-01-01T00:00:03Z"`, `"soon"`), r.Intn(4), r.Intn(9)))
}

func randomPath(r *rand.Rand) api.Path {
	switch r.Intn(40) {
	case 0, 1, 2:
		return way(oneOf(r, "$$.Execution.Input", "$$.Execution.Input", "$$.Execution.Input.o", "$$.State", "$$.Map.Item.Value", "$$", "$$.Map.Item"))
	case 3:
		return way(oneOf(r, "null", "$.gone", "$.l[-1]", "$.l[0]", "$.n.n", "$.t"))
	case 4, 5:
		return way("$")
	case 6:
		return way(oneOf(r, "$.o", "$.l", "$.n"))
	}
	return api.Path{}
}

func randomPut(r *rand.Rand) api.Path {
	switch r.Intn(12) {
	case 0:
		return way(oneOf(r, "$.n.x", "null", "$.l[0]", "$", "$.l[9]"))
	case 1, 2:
		return api.Path{}
	case 3, 4, 5:
		return way("null")
	}
	return way(oneOf(r, "$.r", "$.r", "$.o.r", "$.n"))
}

func randomTemplate(r *rand.Rand) api.Value {
	if !maybe(r, 3) {
		return val(oneOf(r, `{"n":1,"l":[1,2],"t":"1970-01-01T00:00:04Z"}`, `{"n.$":"$$.State.RetryCount","l.$":"$$.Execution.Input.l","o":{"n":1,"l":[]}}`))
	}
	return val(oneOf(r, `{"n.$":"$.n","l.$":"$.l","t":"1970-01-01T00:00:04Z"}`, `{"n.$":"$$.State.RetryCount","l.$":"$$.Execution.Input"}`, `{"l.$":"States.Array($, $$.State.Name)","n":1}`, `{"n.$":"$$.Map.Item.Index","v.$":"$$.Map.Item.Value","l":[1,2]}`, `{"n.$":"$.gone"}`, `{}`, `{"all.$":"$","l":[]}`))
}

func randomNames(r *rand.Rand) []string {
	if maybe(r, 2) {
		return []string{all}
	}
	return oneOf(r, []string{"e"}, []string{"f", "e"}, []string{taskFailed}, []string{runtime}, []string{parameters, resultPath}, []string{"f"}, []string{limit, runtime, "e"}, nil)
}

func randomRetry(r *rand.Rand) []api.Retrier {
	var l []api.Retrier
	for range r.Intn(3) {
		l = append(l, api.Retrier{Errors: randomNames(r), Interval: r.Intn(4), Most: r.Intn(3), Rate: api.Dec{Digits: oneOf(r, "1", "2", "15")}, MaxDelay: r.Intn(3) * 2})
	}
	return l
}

func randomCatch(r *rand.Rand, next func() string) []api.Catcher {
	var l []api.Catcher
	for range r.Intn(3) {
		l = append(l, api.Catcher{Errors: randomNames(r), Result: randomPut(r), Next: next()})
	}
	return l
}

func randomRules(r *rand.Rand, next func() string) []api.Rule {
	var l []api.Rule
	for range r.Intn(4) {
		one := api.Rule{Op: oneOf(r, 15, 17, 38, 41, 39), Var: way(oneOf(r, "$.n", "$.n", "$.l", "$$.State.RetryCount", "$$.Map.Item.Index")), With: val(oneOf(r, "0", "1", "2", "true", "false")), Next: next()}
		if maybe(r, 5) {
			one = api.Rule{Op: oneOf(r, 1, 2, 3), All: []api.Rule{one}, Next: next()}
		}
		if one.Op >= 37 {
			one.With = val(oneOf(r, "true", "false"))
		}
		if maybe(r, 8) {
			one.Next = ""
		}
		l = append(l, one)
	}
	return l
}

// randomMachine has states of all types, and parts so deep; some have a state without a name. Most of what it is told by leads somewhere.
func randomMachine(r *rand.Rand, deep int) api.Machine {
	names := []string{"A", "B", "C", "D"}[:1+r.Intn(4)]
	m := api.Machine{Start: oneOf(r, names...)}
	if maybe(r, 40) {
		m.Start = oneOf(r, "gone", "N", "")
	}
	for i, name := range names {
		next := func() string { // mostly further on: else it would go round till there is no fuel
			switch {
			case maybe(r, 30):
				return oneOf(r, "gone", "N", "")
			case i+1 == len(names) || maybe(r, 8):
				return oneOf(r, names...)
			}
			return oneOf(r, names[i+1:]...)
		}
		s := randomState(r, deep, next)
		s.Name = name
		if i+1 == len(names) && !maybe(r, 6) {
			s.Next = ""
		}
		m.States = append(m.States, s)
	}
	if maybe(r, 2) {
		m.States = append(m.States, pass("", oneOf(r, names...)))
	}
	return api.Machine{Start: m.Start, States: append(m.States, api.State{Name: "N", Type: oneOf(r, 0, 9, -1)}, pass("A", ""))}
}

func randomState(r *rand.Rand, deep int, next func() string) api.State {
	s := api.State{Type: oneOf(r, 1, 1, 2, 2, 2, 2, 3, 4, 5, 6, 7, 7, 7, 8, 8, 8, 8), Resource: oneOf(r, "r", "s", "t"), Input: randomPath(r), Output: randomPath(r), Result: randomPut(r)}
	if deep == 0 && s.Type >= api.Parallel {
		s.Type = oneOf(r, api.Task, api.Pass, api.Fail, api.Choice)
	}
	if !maybe(r, 3) {
		s.Next = next()
	}
	if maybe(r, 3) {
		s.Input, s.Output = api.Path{}, api.Path{}
	}
	s.HasParameters, s.Parameters = maybe(r, 4), randomTemplate(r)
	s.HasSelector, s.Selector = maybe(r, 6), val(oneOf(r, `{"n":1,"l.$":"$"}`, `{"n":2,"l":[1]}`, `{"n":2,"l":[]}`, `{"x.$":"$[0]"}`))
	s.HasFixed, s.Fixed = maybe(r, 3), randomValue(r)
	s.Retry, s.Catch = randomRetry(r), randomCatch(r, next)
	s.Rules = randomRules(r, next)
	if !maybe(r, 3) {
		s.Default = next()
	}
	s.WaitKind, s.Seconds, s.Until = 1+r.Intn(4), oneOf(r, 0, 1, 3, -2), api.Instant{Sec: int64(r.Intn(20)), Nano: oneOf(r, 0, 0, 5, -5)}
	if maybe(r, 20) {
		s.WaitKind = oneOf(r, 0, 5)
	}
	s.AtPath = way(oneOf(r, "$.n", "$.t", "$.o.n"))
	s.Error, s.Cause = oneOf(r, "e", "f", "g", "h", runtime, outOfFuel, "e\xff"), oneOf(r, "", "why", "\xff")
	s.Items, s.Most = way(oneOf(r, "$.l", "$.l", "$.l", "$.o.l", "$", "$$.Execution.Input.l")), oneOf(r, 0, 0, 1, 2, -1)
	if s.Type >= api.Parallel {
		if maybe(r, 2) {
			s.Catch = append(s.Catch, catches(next(), "null", all))
		}
		for range 1 + r.Intn(3) - r.Intn(20)/19 {
			s.Parts = append(s.Parts, randomMachine(r, deep-1))
		}
	}
	return s
}

func randomOutcome(r *rand.Rand) api.Outcome {
	switch r.Intn(9) {
	case 0:
		return wrong(oneOf(r, "e\xff", "", "States.Timeout", outOfFuel), oneOf(r, "\xfe", ""))
	case 1, 2, 3:
		return wrong(oneOf(r, "e", "f", "g"), oneOf(r, "", "why"))
	case 4:
		return api.Outcome{Fine: true, Value: api.Value{Kind: oneOf(r, 9, api.Text, api.Object), Text: "\xff", Fields: []api.Field{{Name: "n", Value: val("1")}, {Name: "l", Value: val("[1,2]")}, {Name: "n"}}}, Error: oneOf(r, "", "e")}
	}
	return api.Outcome{Fine: true, Value: randomValue(r)}
}

func randomAnswers(r *rand.Rand) []api.Answer {
	var l []api.Answer
	for range r.Intn(9) {
		l = append(l, answer(oneOf(r, "r", "s", "t"), oneOf(r, 0, 0, 1, 2, 3), randomOutcome(r)))
	}
	return l
}

// randomWinners tells winners of these contests, most of them; and some of other places, and some twice.
func randomWinners(r *rand.Rand, c []api.Contest) []api.Winner {
	var w []api.Winner
	for _, x := range c {
		for range r.Intn(3) {
			place := slices.Clone(x.Place)
			if maybe(r, 8) {
				place[r.Intn(len(place))]++
			}
			w = append(w, api.Winner{Place: place, Part: oneOf(r, append(x.Parts, oneOf(r, -1, 0, 1, 2, 7))...)})
		}
	}
	for range r.Intn(3) {
		w = append(w, oneOf(r, winner(1, 1, 1), winner(0), winner(1, 2, 1), winner(1, 1, 2), winner(1, 1)))
	}
	if maybe(r, 4) {
		r.Shuffle(len(w), func(i, j int) { w[i], w[j] = w[j], w[i] })
	}
	return w
}

// randomGiven is a run, of parts up to three in one another; most of those with contests tell winners of these.
func randomGiven(r *rand.Rand) given {
	g := given{m: randomMachine(r, 2), in: randomValue(r), l: randomAnswers(r), fuel: oneOf(r, -1, 0, 1, 2, 3, 4, 6, 6, 8, 8, 8, 10, 12)}
	if maybe(r, 5) {
		g.m, g.fuel = randomMachine(r, 3), oneOf(r, 2, 3, 4)
	}
	if maybe(r, 4) {
		return g
	}
	_, c := g.run()
	if len(c) > 300 {
		c = c[:300]
	}
	g.w = randomWinners(r, c)
	return g
}
