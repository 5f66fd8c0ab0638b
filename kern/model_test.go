package kern_test

import (
	"fmt"
	"math/big"
	"slices"
	"sort"
	"strconv"

	"voyage/api"
	"voyage/dec"
	"voyage/json"
	"voyage/path"
	"voyage/pipe"
	"voyage/retry"
	"voyage/rule"
	"voyage/stamp"
)

// The model keeps frames in a flat table by their places, told as texts; what a frame is a part of it finds by cutting its place. Times it reckons in numbers without bounds.

type model struct {
	m     api.Machine
	input api.Value
	fuel  int
	rows  map[string]api.Frame
}

func placeText(place []int) string {
	var b []byte
	for _, n := range place {
		b = append(strconv.AppendInt(b, int64(n), 10), ' ')
	}
	return string(b)
}

// parent is the place of the frame that a part is of.
func parent(place []int) []int { return place[:max(0, len(place)-3)] }

func modelOf(m api.Machine, input api.Value, c api.Config) *model {
	w := &model{m: m, input: input, fuel: c.Fuel, rows: map[string]api.Frame{}}
	for _, f := range c.Frames {
		w.rows[placeText(f.Place)] = f
	}
	return w
}

func (w *model) row(place []int) api.Frame { return w.rows[placeText(place)] }

func (w *model) put(f api.Frame) { w.rows[placeText(f.Place)] = f }

// machineAt is the machine of a frame, if it has one.
func (w *model) machineAt(place []int) (api.Machine, bool) {
	if len(place) == 0 {
		return w.m, true
	}
	s, ok := w.stateAt(parent(place))
	number := map[int]int{api.Parallel: place[len(place)-1]}[s.Type]
	if !ok || s.Type < api.Parallel || number < 0 || number >= len(s.Parts) {
		return api.Machine{}, false
	}
	return s.Parts[number], true
}

// stateAt is the state of a frame, if it has one.
func (w *model) stateAt(place []int) (api.State, bool) {
	f, is := w.rows[placeText(place)]
	m, ok := w.machineAt(place)
	if !is || !ok {
		return api.State{}, false
	}
	return modelState(m, f.At)
}

func modelState(m api.Machine, name string) (api.State, bool) {
	i := slices.IndexFunc(m.States, func(s api.State) bool { return s.Name == name })
	if i < 0 || m.States[i].Type < 1 || m.States[i].Type > 8 {
		return api.State{}, false
	}
	return m.States[i], true
}

// order is the places depth first, from one on.
func (w *model) order(place []int) [][]int {
	f, is := w.rows[placeText(place)]
	if !is {
		return nil
	}
	all := [][]int{place}
	for n := 0; ; n++ {
		part := slices.Concat(place, []int{f.Visit, f.Attempt, n})
		if _, is := w.rows[placeText(part)]; !is {
			return all
		}
		all = append(all, w.order(part)...)
	}
}

// parts is how many parts a frame has.
func (w *model) parts(f api.Frame) int {
	n := 0
	for {
		if _, is := w.rows[placeText(slices.Concat(f.Place, []int{f.Visit, f.Attempt, n}))]; !is {
			return n
		}
		n++
	}
}

func (w *model) part(f api.Frame, n int) api.Frame {
	return w.row(slices.Concat(f.Place, []int{f.Visit, f.Attempt, n}))
}

// modelFits tells whether a configuration fits, and hasn't ended.
func modelFits(m api.Machine, c api.Config) bool {
	w := modelOf(m, api.Value{}, c)
	order := w.order(nil)
	if len(c.Frames) == 0 || len(order) != len(c.Frames) || c.Fuel < 0 || c.Fuel > 65536 {
		return false
	}
	for i, f := range c.Frames {
		s, ok := w.stateAt(f.Place)
		if !slices.Equal(order[i], f.Place) || !ok || f.Left < 0 || f.Left > 65536 || f.Visit < 0 || f.Visit > 1<<40 || f.Attempt < 1 || f.Attempt > 1<<40 {
			return false
		}
		tried := s.Type == api.Task || s.Type >= api.Parallel
		goesWith := []bool{true, s.Type == api.Task, tried, !f.Back && s.Type == api.Wait || f.Back && tried, s.Type >= api.Parallel, true, i == 0}
		if f.Phase < 0 || f.Phase >= len(goesWith) || !goesWith[f.Phase] || f.Phase != api.Fanned && w.parts(f) > 0 {
			return false
		}
	}
	return c.Frames[0].Phase < api.Done
}

// held tells whether some Map around a frame holds it back.
func (w *model) held(place []int) bool {
	if len(place) == 0 {
		return false
	}
	fan := w.row(parent(place))
	s, _ := w.stateAt(fan.Place)
	ahead := 0
	for n := range place[len(place)-1] {
		if w.part(fan, n).Phase != api.Done {
			ahead++
		}
	}
	return s.Type == api.Map && s.Most > 0 && ahead >= s.Most || w.held(fan.Place)
}

func clock(now int64) int64 {
	switch {
	case now < 0:
		return 0
	case now > 1<<50:
		return 1 << 50
	}
	return now
}

// together is the sum of two numbers, as a time.
func together(a, b int64) int64 {
	sum := new(big.Int).Add(big.NewInt(a), big.NewInt(b))
	if sum.Sign() < 0 {
		return 0
	}
	if sum.Cmp(big.NewInt(1<<50)) > 0 {
		return 1 << 50
	}
	return sum.Int64()
}

func modelTurns(m api.Machine, c api.Config, now int64) []int {
	if !modelFits(m, c) {
		return nil
	}
	w := modelOf(m, api.Value{}, c)
	var turns []int
	for i, f := range c.Frames {
		waits := f.Phase == api.Waiting && f.Due > clock(now)
		for n := range w.parts(f) {
			waits = waits || w.part(f, n).Phase != api.Done
		}
		if f.Phase != api.Done && f.Phase != api.Failed && !waits && !w.held(f.Place) {
			turns = append(turns, i)
		}
	}
	return turns
}

// context is that of a frame, with the item of the nearest of these frames: its own place, or that of a part.
func (w *model) context(f api.Frame, from []int) api.Value {
	field := func(name string, v api.Value) api.Field { return api.Field{Name: name, Value: v} }
	object := func(f ...api.Field) api.Value { return api.Value{Kind: api.Object, Fields: f} }
	number := func(n int) api.Value {
		return api.Value{Kind: api.Number, Num: api.Dec{Digits: fmt.Sprint(n)}}
	}
	fields := []api.Field{field("State", object(field("RetryCount", number(f.Attempt-1)), field("Name", text(f.At)))), field("Execution", object(field("Input", w.input)))}
	for {
		if near := w.row(from); near.Index >= 0 {
			fields = append(fields, field("Map", object(field("Item", object(field("Value", near.Item), field("Index", number(near.Index)))))))
			break
		}
		if len(from) == 0 {
			break
		}
		from = parent(from)
	}
	return object(fields...)
}

func (w *model) in(f api.Frame) (api.Value, string) {
	s, _ := w.stateAt(f.Place)
	return pipe.In(s, f.Raw, w.context(f, f.Place))
}

func modelKey(m api.Machine, input api.Value, c api.Config, i int) (api.Key, bool) {
	if !modelFits(m, c) || i < 0 || i >= len(c.Frames) || c.Frames[i].Phase != api.Asked {
		return api.Key{}, false
	}
	w, f := modelOf(m, input, c), c.Frames[i]
	s, _ := w.stateAt(f.Place)
	in, name := w.in(f)
	if name != "" {
		return api.Key{}, false
	}
	return api.Key{Place: f.Place, Visit: f.Visit, Attempt: f.Attempt, Resource: s.Resource, Input: in}, true
}

// moment is the time of a Wait's EvSet at now, if it has one.
func (w *model) moment(f api.Frame, now int64) (int64, bool) {
	s, _ := w.stateAt(f.Place)
	in, name := w.in(f)
	if name != "" {
		return 0, false
	}
	there, _ := path.Get(s.AtPath, in, w.context(f, f.Place))
	until, wrong := s.Until, error(nil)
	switch s.WaitKind {
	case 1:
		return together(now, int64(max(0, s.Seconds))), true
	case 2:
		n, whole := dec.Int(there.Num)
		return together(now, n), there.Kind == api.Number && whole && n >= 0 && n <= 1<<31
	case 3:
	case 4:
		until, wrong = stamp.Parse(there.Text)
	default:
		return 0, false
	}
	if wrong != nil || s.WaitKind == 4 && there.Kind != api.Text {
		return 0, false
	}
	until = stamp.Norm(until)
	if until.Nano > 0 {
		return max(now, together(until.Sec, 1)), true
	}
	return max(now, together(until.Sec, 0)), true
}

func modelTaken(o api.Outcome) api.Outcome {
	utf := func(s string) string { return string([]rune(s)) }
	switch {
	case o.Fine && json.Depth(o.Value) <= 64 && len(json.Print(o.Value)) <= 1048576:
		return api.Outcome{Fine: true, Value: json.Norm(o.Value)}
	case !o.Fine && len(utf(o.Error))+len(utf(o.Cause)) <= 1048576:
		return api.Outcome{Error: utf(o.Error), Cause: utf(o.Cause)}
	}
	return api.Outcome{Error: limit}
}

// event is the event of a frame at now.
func (w *model) event(f api.Frame, now int64, o api.Outcome) api.Event {
	e := api.Event{Kind: api.EvMoved, Place: f.Place}
	s, _ := w.stateAt(f.Place)
	switch f.Phase {
	case api.Asked:
		e.Kind, e.Outcome = api.EvTold, modelTaken(o)
	case api.Delayed:
		e.Kind, e.Time = api.EvSet, together(now, f.Delay)
	case api.Waiting:
		e.Kind, e.Time = api.EvFired, now
	case api.Fanned:
		e.Kind = api.EvJoined
	case api.Ready:
		if _, name := w.in(f); name == "" && s.Type == api.Task {
			e.Kind = api.EvAsked
		}
		if time, is := w.moment(f, now); is && s.Type == api.Wait {
			e.Kind, e.Time = api.EvSet, time
		}
	}
	return e
}

func modelNext(m api.Machine, input api.Value, c api.Config, i int, now int64, o api.Outcome) (api.Event, error) {
	if !slices.Contains(modelTurns(m, c, now), i) {
		return api.Event{}, api.ErrEvent
	}
	return modelOf(m, input, c).event(c.Frames[i], clock(now), o), nil
}

// drop takes all parts of a frame away, and theirs.
func (w *model) drop(f api.Frame) {
	for n := range w.parts(f) {
		for _, place := range w.order(slices.Concat(f.Place, []int{f.Visit, f.Attempt, n})) {
			defer delete(w.rows, placeText(place))
		}
	}
}

// enter tells whether the frame is in the state then.
func (w *model) enter(f api.Frame, name string, v api.Value) bool {
	if f.Left < 1 {
		w.fail(f, outOfFuel, "")
		return false
	}
	f.Left--
	m, _ := w.machineAt(f.Place)
	s, is := modelState(m, name)
	if !is {
		w.fail(f, runtime, "")
		return false
	}
	w.put(api.Frame{Place: f.Place, At: name, Visit: f.Visit + 1, Attempt: 1, Left: f.Left, Raw: v, Charged: make([]int, len(s.Retry)), Item: f.Item, Index: f.Index})
	return true
}

func (w *model) fail(f api.Frame, name, cause string) {
	if len(f.Place) == 0 {
		f.Phase, f.Error, f.Cause = api.Failed, name, cause
		w.put(f)
		return
	}
	fan := w.row(parent(f.Place))
	w.drop(fan)
	w.trouble(fan, name, cause)
}

func (w *model) trouble(f api.Frame, name, cause string) {
	s, _ := w.stateAt(f.Place)
	if s.Type == api.Task || s.Type >= api.Parallel {
		if place, delay, ok := retry.Retry(s.Retry, f.Charged, name); ok {
			f.Charged, f.Phase, f.Delay = retry.Charge(f.Charged, place), api.Delayed, delay
			w.put(f)
			return
		}
		if place, ok := retry.Catch(s.Catch, name); ok {
			c := s.Catch[place]
			what := api.Value{Kind: api.Object, Fields: []api.Field{{Name: "Error", Value: text(name)}, {Name: "Cause", Value: text(cause)}}}
			v, can := path.Put(c.Result, f.Raw, what)
			if c.Result.Nothing {
				v, can = f.Raw, true
			}
			if !can {
				w.fail(f, resultPath, "")
				return
			}
			w.enter(f, c.Next, v)
			return
		}
	}
	w.fail(f, name, cause)
}

func (w *model) finish(f api.Frame, result api.Value) {
	s, _ := w.stateAt(f.Place)
	out, name := pipe.Out(s, f.Raw, result, w.context(f, f.Place))
	switch {
	case name != "":
		w.trouble(f, name, "")
	case s.Type == api.Succeed || s.Next == "":
		f.Phase, f.Result = api.Done, out
		w.put(f)
	default:
		w.enter(f, s.Next, out)
	}
}

// fan makes parts, each with what begin gives for it.
func (w *model) fan(f api.Frame, number int, begin func(part api.Frame) (api.Value, string)) {
	s, _ := w.stateAt(f.Place)
	f.Phase = api.Fanned
	for n := range number {
		w.put(f)
		part := api.Frame{Place: slices.Concat(f.Place, []int{f.Visit, f.Attempt, n}), Left: w.fuel, Index: -1}
		if s.Type == api.Map {
			part.Index = n
		}
		v, name := begin(part)
		if name != "" {
			w.drop(f)
			w.trouble(f, name, "")
			return
		}
		part = w.row(part.Place)
		m, _ := w.machineAt(part.Place)
		if !w.enter(part, m.Start, v) {
			return
		}
	}
	w.put(f)
}

func (w *model) moveMap(f api.Frame, s api.State, in api.Value) {
	items, _ := path.Get(s.Items, in, w.context(f, f.Place))
	if items.Kind != api.List || len(items.List) > 1024 || len(s.Parts) == 0 {
		w.trouble(f, runtime, "")
		return
	}
	w.fan(f, len(items.List), func(part api.Frame) (api.Value, string) {
		part.Item = items.List[part.Index]
		w.put(part)
		if !s.HasParameters {
			return part.Item, ""
		}
		v, err := pipe.Fill(s.Parameters, in, w.context(f, part.Place))
		if err != nil && err != api.ErrLong {
			return v, parameters
		}
		return v, map[bool]string{true: limit}[err == api.ErrLong]
	})
}

func (w *model) moveChoice(f api.Frame, s api.State, in api.Value) {
	ctx := w.context(f, f.Place)
	next := s.Default
	for _, r := range s.Rules {
		holds, err := rule.Eval(r, in, ctx)
		if err != nil {
			w.trouble(f, runtime, "")
			return
		}
		if holds {
			next = r.Next
			break
		}
	}
	out, name := pipe.Out(s, f.Raw, in, ctx)
	switch {
	case next == "":
		w.trouble(f, noChoice, "")
	case name != "":
		w.trouble(f, name, "")
	default:
		w.enter(f, next, out)
	}
}

func (w *model) move(f api.Frame) {
	s, _ := w.stateAt(f.Place)
	in, name := w.in(f)
	switch {
	case s.Type == api.Fail:
		w.fail(f, s.Error, s.Cause)
	case name != "":
		w.trouble(f, name, "")
	case s.Type == api.Pass && s.HasFixed:
		w.finish(f, s.Fixed)
	case s.Type == api.Pass || s.Type == api.Succeed:
		w.finish(f, in)
	case s.Type == api.Choice:
		w.moveChoice(f, s, in)
	case s.Type == api.Parallel && len(s.Parts) <= 1024:
		w.fan(f, len(s.Parts), func(part api.Frame) (api.Value, string) {
			w.put(part)
			return in, ""
		})
	case s.Type == api.Map:
		w.moveMap(f, s, in)
	default:
		w.trouble(f, runtime, "")
	}
}

// does does what the event of a frame does.
func (w *model) does(f api.Frame, e api.Event) {
	switch e.Kind {
	case api.EvMoved:
		w.move(f)
	case api.EvAsked:
		f.Phase = api.Asked
		w.put(f)
	case api.EvTold:
		if e.Outcome.Fine {
			w.finish(f, e.Outcome.Value)
		} else {
			w.trouble(f, e.Outcome.Error, e.Outcome.Cause)
		}
	case api.EvSet:
		f.Back, f.Phase, f.Due = f.Phase == api.Delayed, api.Waiting, e.Time
		w.put(f)
	case api.EvFired:
		in, name := w.in(f)
		switch {
		case f.Back:
			f.Attempt, f.Phase = f.Attempt+1, api.Ready
			w.put(f)
		case name != "":
			w.trouble(f, name, "")
		default:
			w.finish(f, in)
		}
	case api.EvJoined:
		list := api.Value{Kind: api.List}
		for n := range w.parts(f) {
			list.List = append(list.List, w.part(f, n).Result)
		}
		w.drop(f)
		w.finish(f, list)
	}
}

// config is what runs, told as an answer.
func (w *model) config() api.Config {
	c := api.Config{Fuel: w.fuel}
	places := w.order(nil)
	for _, place := range places {
		f := w.row(place)
		g := api.Frame{Place: place, At: f.At, Visit: f.Visit, Attempt: f.Attempt, Left: f.Left, Raw: json.Norm(f.Raw), Phase: f.Phase, Charged: f.Charged, Item: json.Norm(f.Item), Index: f.Index}
		if f.Index < 0 {
			g.Index, g.Item = -1, api.Value{}
		}
		switch f.Phase {
		case api.Delayed:
			g.Delay, g.Back = f.Delay, true
		case api.Waiting:
			g.Due, g.Back = f.Due, f.Back
		case api.Done:
			g.Result = json.Norm(f.Result)
		case api.Failed:
			g.Error, g.Cause = f.Error, f.Cause
		}
		c.Frames = append(c.Frames, g)
	}
	if len(places) != len(w.rows) {
		panic(fmt.Sprint("the model has lost frames: ", w.rows))
	}
	return c
}

func modelBegin(m api.Machine, input api.Value, fuel int) api.Config {
	fuels := []int{0, fuel, 65536}
	sort.Ints(fuels)
	w := modelOf(m, input, api.Config{Fuel: fuels[1]})
	whole := api.Frame{Left: w.fuel, Index: -1}
	w.put(whole)
	w.enter(whole, m.Start, input)
	return w.config()
}

func modelApply(m api.Machine, input api.Value, c api.Config, e api.Event) (api.Config, error) {
	w := modelOf(m, input, c)
	i := slices.IndexFunc(c.Frames, func(f api.Frame) bool { return slices.Equal(f.Place, e.Place) })
	if !modelFits(m, c) || i < 0 {
		return api.Config{}, api.ErrEvent
	}
	f := c.Frames[i]
	now := int64(1 << 62)
	if f.Phase == api.Waiting { // whatever its Due: that is held against Time below
		f.Due = 0
		w.put(f)
		d := api.Config{Fuel: c.Fuel, Frames: slices.Clone(c.Frames)}
		d.Frames[i] = f
		if !slices.Contains(modelTurns(m, d, now), i) {
			return api.Config{}, api.ErrEvent
		}
		f.Due = c.Frames[i].Due
		w.put(f)
	} else if !slices.Contains(modelTurns(m, c, now), i) {
		return api.Config{}, api.ErrEvent
	}
	may := w.event(f, 0, e.Outcome) // at the least now, so that its Time is the least
	s, _ := w.stateAt(f.Place)
	inTime := e.Time >= 0 && e.Time <= 1<<50
	switch {
	case may.Kind != e.Kind,
		e.Kind == api.EvSet && !inTime,
		e.Kind == api.EvSet && f.Phase == api.Ready && s.WaitKind >= 3 && e.Time < may.Time,
		e.Kind == api.EvFired && (!inTime || e.Time < f.Due),
		e.Kind == api.EvTold && !same(e.Outcome, may.Outcome):
		return api.Config{}, api.ErrEvent
	}
	w.does(f, e)
	return w.config(), nil
}
