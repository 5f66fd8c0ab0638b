package dry_test

import (
	"fmt"
	"slices"
	"unicode/utf8"

	"voyage/api"
	"voyage/dec"
	"voyage/json"
	"voyage/path"
	"voyage/pipe"
	"voyage/retry"
	"voyage/rule"
	"voyage/stamp"
)

// The model goes visit by visit, and in each attempt by attempt; what comes of one is a thing of its own that it hands back. Nothing of it is kept in frames.

type model struct {
	given
	steps    int
	contests []api.Contest
}

// effect is what comes of an attempt: the frame goes on at next, or has ended, or there is trouble, or it FAILS at once.
type effect struct {
	next, done, trouble, fails bool
	name, cause                string // of the state, or the error
	v                          api.Value
}

func troubled(name string) effect { return effect{trouble: true, name: name} }

// where is where a state is done.
type where struct {
	place []int
	ctx   api.Value
	item  api.Value // an object of Index and Value, or null
	raw   api.Value
}

func modelRun(g given) (api.Report, []api.Contest) {
	g.fuel = max(0, min(65536, g.fuel))
	w := &model{given: g}
	o := w.frame(g.m, nil, api.Value{}, g.in)
	if o.Fine {
		return api.Report{Fine: true, Output: json.Norm(o.Value), Steps: w.steps}, w.contests
	}
	return api.Report{Error: o.Error, Cause: o.Cause, Steps: w.steps}, w.contests
}

// begins tells by which error a frame of this machine FAILS as it begins; none: it doesn't.
func (w *model) begins(m api.Machine, name string, left int) string {
	i := slices.IndexFunc(m.States, func(s api.State) bool { return s.Name == name })
	switch {
	case left == 0:
		return outOfFuel
	case i < 0 || m.States[i].Type < 1 || m.States[i].Type > 8:
		return runtime
	}
	return ""
}

// frame gives what a frame comes to.
func (w *model) frame(m api.Machine, place []int, item, v api.Value) api.Outcome {
	name := m.Start
	for visit := 1; ; visit++ {
		if bad := w.begins(m, name, w.fuel-visit+1); bad != "" {
			return wrong(bad, "")
		}
		i := slices.IndexFunc(m.States, func(s api.State) bool { return s.Name == name })
		what := w.visit(m.States[i], where{place: slices.Concat(place, []int{visit}), item: item, raw: v})
		switch {
		case what.done:
			return api.Outcome{Fine: true, Value: what.v}
		case what.next:
			name, v = what.name, what.v
		default:
			return wrong(what.name, what.cause)
		}
	}
}

// visit does a state, as often as it is tried; what comes of it isn't trouble any more.
func (w *model) visit(s api.State, at where) effect {
	charged := map[int]int{}
	for attempt := 1; ; attempt++ {
		once := at
		once.place = slices.Concat(at.place, []int{attempt})
		once.ctx = w.context(s.Name, attempt, at.item)
		what := w.attempt(s, once)
		if !what.trouble {
			return what
		}
		tried := s.Type == api.Task || s.Type == api.Parallel || s.Type == api.Map
		r := slices.IndexFunc(s.Retry, func(r api.Retrier) bool { return retry.Matches(r.Errors, what.name) })
		if tried && r >= 0 && charged[r] < s.Retry[r].Most {
			charged[r]++
			w.steps += 2
			continue
		}
		c := slices.IndexFunc(s.Catch, func(c api.Catcher) bool { return retry.Matches(c.Errors, what.name) })
		if !tried || c < 0 {
			return effect{fails: true, name: what.name, cause: what.cause}
		}
		return caught(s.Catch[c], at.raw, what)
	}
}

func caught(c api.Catcher, raw api.Value, what effect) effect {
	if c.Result.Nothing {
		return effect{next: true, name: c.Next, v: raw}
	}
	v, ok := path.Put(c.Result, raw, api.Value{Kind: api.Object, Fields: []api.Field{{Name: "Cause", Value: text(what.cause)}, {Name: "Error", Value: text(what.name)}}})
	if !ok {
		return effect{fails: true, name: resultPath}
	}
	return effect{next: true, name: c.Next, v: v}
}

func (w *model) context(state string, attempt int, item api.Value) api.Value {
	ctx := val(fmt.Sprintf(`{"Map":{"Item":0},"Execution":{"Input":0},"State":{"Name":%s,"RetryCount":%d}}`, json.Print(text(state)), attempt-1))
	ctx.Fields[0].Value.Fields[0].Value = w.in // by rising names
	if item.Kind == api.Null {
		return api.Value{Kind: api.Object, Fields: []api.Field{ctx.Fields[0], ctx.Fields[2]}}
	}
	ctx.Fields[1].Value.Fields[0].Value = item
	return ctx
}

// leave is what comes of a state with a result.
func leave(s api.State, at where, result api.Value) effect {
	out, name := pipe.Out(s, at.raw, result, at.ctx)
	switch {
	case name != "":
		return troubled(name)
	case s.Next == "" || s.Type == api.Succeed:
		return effect{done: true, v: out}
	}
	return effect{next: true, name: s.Next, v: out}
}

func (w *model) attempt(s api.State, at where) effect {
	w.steps++
	if s.Type == api.Fail {
		return effect{fails: true, name: s.Error, cause: s.Cause}
	}
	in, name := pipe.In(s, at.raw, at.ctx)
	if name != "" {
		return troubled(name)
	}
	switch s.Type {
	case api.Task:
		w.steps++
		o := w.asks(s.Resource, at.place[len(at.place)-1])
		if !o.Fine {
			return effect{trouble: true, name: o.Error, cause: o.Cause}
		}
		return leave(s, at, o.Value)
	case api.Wait:
		if !modelMoment(s, in, at.ctx) {
			return troubled(runtime)
		}
		w.steps++
	case api.Pass:
		if s.HasFixed {
			return leave(s, at, s.Fixed)
		}
	case api.Choice:
		return modelChoice(s, at, in)
	case api.Parallel, api.Map:
		return w.fan(s, at, in)
	}
	return leave(s, at, in)
}

func (w *model) asks(resource string, attempt int) api.Outcome {
	i := slices.IndexFunc(w.l, func(a api.Answer) bool {
		return a.Resource == resource && slices.Contains([]int{0, attempt}, a.Attempt)
	})
	if i < 0 {
		return wrong(taskFailed, "")
	}
	utf := func(s string) string {
		if utf8.ValidString(s) {
			return s
		}
		return string([]rune(s))
	}
	o := w.l[i].Outcome
	switch {
	case o.Fine && json.Depth(o.Value) <= 64 && len(json.Print(o.Value)) <= 1048576:
		return api.Outcome{Fine: true, Value: o.Value}
	case !o.Fine && len(utf(o.Error)+utf(o.Cause)) <= 1048576:
		return wrong(utf(o.Error), utf(o.Cause))
	}
	return wrong(limit, "")
}

func modelMoment(s api.State, in, ctx api.Value) bool {
	there, _ := path.Get(s.AtPath, in, ctx)
	n, whole := dec.Int(there.Num)
	_, err := stamp.Parse(there.Text)
	has := map[int]bool{1: true, 2: there.Kind == api.Number && whole && n >= 0 && n <= 1<<31, 3: true, 4: there.Kind == api.Text && err == nil}
	return has[s.WaitKind]
}

func modelChoice(s api.State, at where, in api.Value) effect {
	next := s.Default
	for i := 0; i < len(s.Rules); i++ {
		holds, err := rule.Eval(s.Rules[i], in, at.ctx)
		if err != nil {
			return troubled(runtime)
		}
		if holds {
			next = s.Rules[i].Next
			break
		}
	}
	if next == "" {
		return troubled(noChoice)
	}
	out, name := pipe.Out(s, at.raw, in, at.ctx)
	if name != "" {
		return troubled(name)
	}
	return effect{next: true, name: next, v: out}
}

// begun is a part that has begun.
type begun struct {
	m       api.Machine
	item, v api.Value
}

func (w *model) fan(s api.State, at where, in api.Value) effect {
	var parts []begun
	for _, m := range s.Parts {
		parts = append(parts, begun{m, at.item, in})
	}
	if s.Type == api.Map {
		items, _ := path.Get(s.Items, in, at.ctx)
		if items.Kind != api.List || len(s.Parts) == 0 {
			return troubled(runtime)
		}
		parts = nil
		for i, item := range items.List {
			parts = append(parts, begun{s.Parts[0], api.Value{Kind: api.Object, Fields: []api.Field{{Name: "Index", Value: val(fmt.Sprint(i))}, {Name: "Value", Value: item}}}, item})
		}
	}
	if len(parts) > 1024 {
		return troubled(runtime)
	}
	for i := range parts {
		if s.Type == api.Map && s.HasParameters {
			v, err := pipe.Fill(s.Parameters, in, w.context(s.Name, at.place[len(at.place)-1], parts[i].item))
			if err != nil {
				return troubled(map[bool]string{true: limit, false: parameters}[err == api.ErrLong])
			}
			parts[i].v = v
		}
		if bad := w.begins(parts[i].m, parts[i].m.Start, w.fuel); bad != "" {
			w.contests = append(w.contests, api.Contest{Place: at.place, Parts: []int{i}, Won: i})
			return troubled(bad)
		}
	}
	return w.runs(s, at, parts)
}

// runs runs parts, and goes on with what they come to.
func (w *model) runs(s api.State, at where, parts []begun) effect {
	var failed, can []int
	var ends []api.Outcome
	list := api.Value{Kind: api.List}
	for i, part := range parts {
		o := w.frame(part.m, slices.Concat(at.place, []int{i}), part.item, part.v)
		ends = append(ends, o)
		list.List = append(list.List, o.Value)
		if !o.Fine && (s.Type == api.Parallel || s.Most <= 0 || len(failed) < s.Most) {
			can = append(can, i)
		}
		if !o.Fine {
			failed = append(failed, i)
		}
	}
	if len(can) == 0 {
		w.steps++
		return leave(s, at, list)
	}
	won := can[0]
	if i := slices.IndexFunc(w.w, func(x api.Winner) bool { return slices.Equal(x.Place, at.place) }); i >= 0 && slices.Contains(can, w.w[i].Part) {
		won = w.w[i].Part
	}
	w.contests = append(w.contests, api.Contest{Place: at.place, Parts: can, Won: won})
	return effect{trouble: true, name: ends[won].Error, cause: ends[won].Cause}
}
