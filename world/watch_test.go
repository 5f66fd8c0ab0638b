package world_test

import (
	"fmt"
	"slices"
	"testing"

	"voyage/api"
	"voyage/dry"
	"voyage/kern"
	"voyage/world"
)

// watch is a world that is looked at act by act: whatever an act does must keep the promises of the whole.
type watch struct {
	t    *testing.T
	b    beginnings
	w    *world.World
	dead bool // the engine met a power failure, or there is none

	script, tillEnd []api.Act // all acts so far; those ahead of the go to the end

	known  []api.Event // History, as it was seen last
	keys   []string    // of each of these the key, if it tells what came of a task
	run    folded      // of these
	held   []api.Event // those that were held against kern.Next: these, or more
	time   int64       // the last of these came to be at
	clocks []int64     // all times that were seen

	opened  int // so many engines there were
	asked   int // so many keys were asked
	since   int // and so many till the last restart
	times   map[string]int
	dues    map[string]int64 // of each frame that ever waited
	delayed map[string]int64 // of each that was to wait: no earlier than this
	seen    map[string]int
}

func observe(t *testing.T, b beginnings, seen map[string]int) *watch {
	return &watch{t: t, b: b, w: world.New(b.answers), opened: 1, times: map[string]int{}, dues: map[string]int64{}, delayed: map[string]int64{}, seen: seen}
}

func (o *watch) fatal(format string, args ...any) {
	o.t.Helper()
	o.t.Fatalf("%s of %s, %d:\n%s\n%s\n%s", o.b.machine, o.b.input, o.b.fuel, fmt.Sprintf(format, args...), shownEvents(o.known), shown(o.w.Config()))
}

// do does an act, and holds what has come of it.
func (o *watch) do(a api.Act) api.Reply {
	o.t.Helper()
	file, synced := o.w.Bytes()
	safe, all := len(eventsIn(file[:synced])), eventsIn(file)
	safeKeys := slices.Clone(o.keys[:min(safe, len(o.keys))])
	was := o.w.Now()
	o.script = append(o.script, a)
	p := o.w.Do(a)[0]
	if now := o.w.Now(); now < was {
		o.fatal("%+v: the time falls from %d to %d", a, was, now)
	}
	o.clocks = append(o.clocks, o.w.Now())
	if a.Kind == 5 {
		o.restarted(p, all, safe)
	}
	o.goesOn(was)
	o.holdAsked(safeKeys)
	o.dead = a.Kind == 5 && p.Err != nil || a.Kind != 5 && (o.dead || p.Err == api.ErrDown)
	if !o.dead {
		// Of a dead engine a frame may be Delayed that, by what stands on the disk, waits.
		o.noteDelayed(o.w.Now())
	}
	if p.Ended {
		o.holdEnd(p.Report)
	}
	return p
}

// restarted holds P18.6 of a restart: of all events that stood on the disk a beginning is found, with those that were safe; nobody is asked.
func (o *watch) restarted(p api.Reply, all []api.Event, safe int) {
	o.t.Helper()
	o.opened++
	o.since = o.asked
	if len(o.w.Asked()) != o.asked {
		o.fatal("asked as it was opened")
	}
	file, _ := o.w.Bytes()
	found := o.w.History()
	if p.Err != nil {
		if p.Err != api.ErrDown || len(found) > 0 || len(o.w.Config().Frames) > 0 {
			o.fatal("a restart: %v, %s", p.Err, shownEvents(found))
		}
		found = eventsIn(file)
	}
	if len(found) < safe || len(found) > len(all) || !sameEvents(found, all[:len(found)]) {
		o.fatal("found: %s\nof %s\n%d of them safe", shownEvents(found), shownEvents(all), safe)
	}
	if len(found) < len(all) {
		o.seen["lost events"]++
	}
	if p.Err == nil && !slices.Equal(file, written(found...)) {
		o.fatal("the disk has more than what was found: %d bytes", len(file))
	}
	o.known, o.keys, o.run = nil, nil, folded{}
	for i, x := range o.w.History() {
		// An event that the power went at was never told, but may stand on the disk.
		if i > 0 && (i >= len(o.held) || !same(o.held[i], x)) {
			o.holdNext(x, o.clocks)
		}
		o.take(x)
	}
	for _, f := range o.run.config.Frames {
		if _, is := o.dues[frameText(f)]; is && f.Phase == api.Waiting {
			o.seen["deadlines found again"]++
		}
	}
}

func sameEvents(a, b []api.Event) bool {
	return slices.EqualFunc(a, b, func(x, y api.Event) bool { return same(x, y) })
}

// take lays an event behind those that are known.
func (o *watch) take(x api.Event) {
	o.t.Helper()
	k := ""
	if len(o.known) == 0 {
		o.run = fold([]api.Event{x})
		if !o.run.ok {
			o.fatal("no beginning: %s", shownEvent(x))
		}
	} else {
		switch x.Kind {
		case api.EvTold:
			k = o.keyText(x.Place)
		case api.EvFired:
			o.holdFired(x)
		}
		c, err := kern.Apply(o.run.machine, o.run.input, o.run.config, x)
		if err != nil {
			o.fatal("an event that can't be: %s", shownEvent(x))
		}
		o.run.config = c
	}
	if n := len(o.known); n >= len(o.held) || !same(o.held[n], x) {
		o.held = append(o.held[:n:n], x)
	}
	o.known, o.keys = append(o.known, x), append(o.keys, k)
	o.holdStates()
}

// holdFired holds P18.10 of an EvFired ahead of what runs: it is no earlier than its frame was due.
func (o *watch) holdFired(x api.Event) {
	o.t.Helper()
	f := frameAt(o.run.config, x.Place)
	if f.Phase != api.Waiting || x.Time < f.Due {
		o.fatal("fired at %d: %v, due at %d", x.Time, f.Place, f.Due)
	}
	if f.Back {
		o.seen["retries"]++
	}
}

func (o *watch) keyText(place []int) string {
	for i, f := range o.run.config.Frames {
		if slices.Equal(f.Place, place) {
			k, _ := kern.Key(o.run.machine, o.run.input, o.run.config, i)
			return textOf(k)
		}
	}
	return ""
}

func textOf(k api.Key) string { return fmt.Sprint(k.Place, k.Visit, k.Attempt) }

// goesOn holds P18.6 of the events that came to be by an act: each is what kern.Next tells, at a time that doesn't fall.
func (o *watch) goesOn(was int64) {
	o.t.Helper()
	events := o.w.History()
	if len(events) < len(o.known) || !sameEvents(events[:len(o.known)], o.known) {
		o.fatal("another History: %s", shownEvents(events))
	}
	o.time = was
	for _, x := range events[len(o.known):] {
		if len(o.known) > 0 {
			o.holdNext(x, o.timesTo(o.w.Now()))
		}
		o.take(x)
		o.noteDelayed(o.time)
	}
	if c := o.w.Config(); !same(c, o.run.config) {
		o.fatal("another Config: %s", shown(c))
	}
}

// timesTo are the times at which a go can have come to the next event: the time, and the deadlines from there on.
func (o *watch) timesTo(now int64) []int64 {
	times := []int64{o.time, now}
	for _, f := range o.run.config.Frames {
		if f.Phase == api.Waiting && f.Due > o.time && f.Due < now {
			times = append(times, f.Due)
		}
	}
	slices.Sort(times)
	return times
}

// holdNext wants that an event is next, at some turn, and at one of these times.
func (o *watch) holdNext(x api.Event, times []int64) {
	o.t.Helper()
	for _, now := range times {
		for _, i := range kern.Turns(o.run.machine, o.run.config, now) {
			y, err := kern.Next(o.run.machine, o.run.input, o.run.config, i, now, x.Outcome)
			if err == nil && same(x, y) {
				o.time = now
				return
			}
		}
	}
	o.fatal("%s is not next, at %v, of %s", shownEvent(x), times, shown(o.run.config))
}

// holdStates holds T8: each frame is at a state that its machine has; and, of T5, that no retrier is charged more than Most times.
func (o *watch) holdStates() {
	o.t.Helper()
	for _, f := range o.run.config.Frames {
		if f.Visit == 0 {
			continue // it had no fuel for its first state
		}
		s, is := stateAt(o.run, f)
		if !is {
			o.fatal("no state %q: %v", f.At, f.Place)
		}
		for i, n := range f.Charged {
			if n > s.Retry[i].Most {
				o.fatal("%v at %q is charged %v", f.Place, f.At, f.Charged)
			}
		}
	}
}

// stateAt is the state that a frame is at.
func stateAt(run folded, f api.Frame) (api.State, bool) {
	m := run.machine
	for n := 0; n < len(f.Place); n += 3 {
		for _, g := range run.config.Frames {
			if !slices.Equal(g.Place, f.Place[:n]) {
				continue
			}
			s, is := named(m, g.At)
			if !is {
				return s, false
			}
			part := f.Place[n+2]
			if s.Type == api.Map {
				part = 0
			}
			m = s.Parts[part]
		}
	}
	return named(m, f.At)
}

func named(m api.Machine, name string) (api.State, bool) {
	for _, s := range m.States {
		if s.Name == name {
			return s, true
		}
	}
	return api.State{}, false
}

// holdAsked holds P18.7: a key is asked once by an engine at most, and never if what came of it was safe ahead of the act.
func (o *watch) holdAsked(safe []string) {
	o.t.Helper()
	keys := o.w.Asked()
	if len(keys) < o.asked {
		o.fatal("fewer keys: %+v", keys)
	}
	for i, k := range keys[o.asked:] {
		text := textOf(k)
		if slices.Contains(safe, text) {
			o.fatal("asked though it is safe: %+v", k)
		}
		for _, earlier := range keys[o.since : o.asked+i] {
			if textOf(earlier) == text {
				o.fatal("asked twice by one engine: %+v", k)
			}
		}
		if o.times[text]++; o.times[text] > o.opened {
			o.fatal("asked %d times by %d engines: %+v", o.times[text], o.opened, k)
		}
		if o.times[text] > 1 {
			o.seen["asked again"]++
		}
	}
	o.asked = len(keys)
}

func frameText(f api.Frame) string { return fmt.Sprint(f.Place, f.Visit, f.Attempt, f.Back) }

// noteDelayed notes which frames are Delayed at a tick: what they will wait for is due no earlier than their Delay behind it.
func (o *watch) noteDelayed(now int64) {
	o.t.Helper()
	for _, f := range o.run.config.Frames {
		text := frameText(f)
		switch f.Phase {
		case api.Delayed:
			o.delayed[text] = max(o.delayed[text], min(now+f.Delay, api.MaxTime))
		case api.Waiting:
			if due, is := o.dues[text]; is && due != f.Due {
				o.fatal("another deadline: %v is due at %d, was at %d", f.Place, f.Due, due)
			}
			if f.Due < o.delayed[text] {
				o.fatal("%v is due at %d, not %d", f.Place, f.Due, o.delayed[text])
			}
			o.dues[text] = f.Due
		}
	}
}

// over tells whether the run has ended.
func (o *watch) over() bool {
	c := o.run.config
	return len(c.Frames) > 0 && (c.Frames[0].Phase == api.Done || c.Frames[0].Phase == api.Failed)
}

// frameAt is the frame of a place.
func frameAt(c api.Config, place []int) api.Frame {
	for _, f := range c.Frames {
		if slices.Equal(f.Place, place) {
			return f
		}
	}
	return api.Frame{}
}

// holdEnd holds P18.5 and P18.8 of an end: it is what dry.Run says with the winners that History tells, and dry.Run counts no fewer steps than there were.
func (o *watch) holdEnd(r api.Report) (api.Report, []api.Contest) {
	o.t.Helper()
	x := o.known[0]
	winners := winnersOf(o.known)
	want, contests := dry.Run(o.run.machine, o.run.input, o.b.answers, winners, x.Fuel)
	most := want.Steps
	if want.Steps = 0; !same(r, want) {
		o.fatal("the end: %s, not %s, with the winners %v", shownReport(r), shownReport(want), winners)
	}
	if len(o.known)-1 > most {
		o.fatal("%d events, not %d", len(o.known)-1, most)
	}
	for _, won := range winners {
		if !isWon(contests, won) {
			o.fatal("the winner %v is none of %v", won, contests)
		}
	}
	want.Steps = most
	return want, contests
}

// isWon tells whether a winner is the one of its contest.
func isWon(contests []api.Contest, w api.Winner) bool {
	return slices.ContainsFunc(contests, func(c api.Contest) bool { return slices.Equal(c.Place, w.Place) && c.Won == w.Part })
}

// end goes to the end of the run, with the power on, and holds the end.
func (o *watch) end() api.Report {
	o.t.Helper()
	o.do(arms(0))
	o.tillEnd = slices.Clone(o.script)
	o.do(goes(1 << 16))
	p := o.do(ends())
	if !p.Ended {
		o.fatal("no end: %s", shownReply(p))
	}
	report, contests := o.holdEnd(p.Report)
	for what, is := range map[string]bool{
		"fine": report.Fine, "bad": !report.Fine, "no contest": len(contests) == 0, "contests": len(contests) > 0, "several contests": len(contests) > 1,
		"not the least": slices.ContainsFunc(contests, func(c api.Contest) bool { return c.Won != c.Parts[0] }),
	} {
		if is {
			o.seen[what]++
		}
	}
	return report
}

// holdGoes holds P18.8 of a run that has come to this end: a go that is just long enough by it comes to it, too.
func (o *watch) holdGoes(r api.Report) {
	o.t.Helper()
	for _, n := range []int{2*r.Steps + 1, 2*r.Steps + 2} {
		twin := world.New(o.b.answers)
		twin.Do(o.tillEnd...)
		twin.Do(goes(int64(min(n, 1<<16))))
		if p := twin.Do(ends())[0]; !p.Ended || !sameEvents(twin.History(), o.known) {
			o.fatal("a go of %d: %s", n, shownReply(p))
		}
	}
}

// winnersOf are the winners that a History tells.
func winnersOf(events []api.Event) []api.Winner {
	var winners []api.Winner
	f := fold(events[:1])
	for _, x := range events[1:] {
		c, err := kern.Apply(f.machine, f.input, f.config, x)
		if err != nil {
			panic(err)
		}
		winners, f.config = append(winners, came(x.Place, c)...), c
	}
	return winners
}

// came gives the winners that come to be by an event of a place: from within to without, as long as the fan-out of which it is a part isn't Fanned any more, or gone.
func came(place []int, behind api.Config) []api.Winner {
	var winners []api.Winner
	for ; len(place) > 0; place = place[:len(place)-3] {
		n := len(place)
		f := frameAt(behind, place[:n-3])
		if f.Phase == api.Fanned && f.Visit == place[n-3] && f.Attempt == place[n-2] {
			break
		}
		winners = append(winners, api.Winner{Place: slices.Clone(place[:n-1]), Part: place[n-1]})
	}
	return winners
}
