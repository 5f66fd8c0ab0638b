package kern_test

import (
	"fmt"
	"math/rand"
	"slices"
	"testing"

	"voyage/api"
	"voyage/json"
	"voyage/kern"
)

// agree holds all calls against the model, of one configuration. It gives how many of the events that it tried were taken.
func agree(t *testing.T, r *rand.Rand, m api.Machine, in api.Value, c api.Config, now int64) int {
	t.Helper()
	hit := 0
	for _, at := range []int64{now, randomTime(r, now)} {
		got, want := kern.Turns(m, c, at), modelTurns(m, c, at)
		if !slices.Equal(got, want) {
			t.Fatalf("Turns at %d: %v, want %v; %+v\n%s", at, got, want, m, shown(c))
		}
	}
	last := api.Event{Kind: r.Intn(9)}
	for i := -1; i <= len(c.Frames); i++ {
		o := randomOutcome(r)
		gotKey, gotIs := kern.Key(m, in, c, i)
		if want, is := modelKey(m, in, c, i); is != gotIs || !same(gotKey, want) {
			t.Fatalf("Key of %d: %+v, %v, want %+v, %v; %+v\n%s", i, gotKey, gotIs, want, is, m, shown(c))
		}
		got, err := kern.Next(m, in, c, i, now, o)
		want, wrong := modelNext(m, in, c, i, now, o)
		if err != wrong || !same(got, want) {
			t.Fatalf("Next of %d at %d: %+v, %v, want %+v, %v; %+v\n%s", i, now, got, err, want, wrong, m, shown(c))
		}
		if err == nil {
			last = want
		}
		for _, e := range []api.Event{want, randomEvent(r, c, last, now)} {
			got, err := kern.Apply(m, in, c, e)
			want, wrong := modelApply(m, in, c, e)
			if err != wrong || !same(got, want) {
				t.Fatalf("Apply of %+v: %v, %s\nwant %v, %s; %+v\n%s", e, err, shown(got), wrong, shown(want), m, shown(c))
			}
			if err == nil {
				hit++
			}
		}
	}
	return hit
}

// step takes a turn of a run, any one, or lets time go on; false: it has ended.
func step(t *testing.T, r *rand.Rand, m api.Machine, in api.Value, c *api.Config, now *int64) (api.Event, bool) {
	t.Helper()
	turns := kern.Turns(m, *c, *now)
	for len(turns) == 0 {
		due := nextDue(*c)
		if due <= *now {
			return api.Event{}, false
		}
		*now = due
		turns = kern.Turns(m, *c, *now)
	}
	if maybe(r, 4) {
		*now += int64(r.Intn(3))
	}
	e, d := goes(t, m, in, *c, oneOf(r, turns...), *now, randomOutcome(r))
	*c = d
	return e, true
}

// TestRandomRunsAgainstTheModel holds P15.1 to P15.6: all calls, of every configuration of random runs, and of some changed by hand.
func TestRandomRunsAgainstTheModel(t *testing.T) {
	r := rand.New(rand.NewSource(15))
	phases, kinds, errors := map[string]int{}, map[int]int{}, map[string]int{}
	byHand, fitting := 0, 0
	for range 900 {
		m, in, fuel := randomMachine(r, 2), randomValue(r), oneOf(r, -1, 0, 1, 2, 5, 12, 12, 12, 12, 30, 30, 30, 65536, 65537)
		c := kern.Begin(m, in, fuel)
		wantConfig(t, "Begin", c, modelBegin(m, in, fuel))
		now := int64(0)
		for range 40 {
			agree(t, r, m, in, c, now)
			hand := randomConfig(r, c)
			byHand++
			if agree(t, r, m, in, hand, now) > 0 {
				fitting++
			}
			for _, f := range c.Frames {
				phases[fmt.Sprint(f.Phase, len(f.Place)/3)]++
			}
			e, went := step(t, r, m, in, &c, &now)
			if !went {
				break
			}
			kinds[e.Kind]++
		}
		errors[c.Frames[0].Error]++
	}
	for phase := api.Ready; phase <= api.Done; phase++ {
		for deep := range 3 {
			if n := phases[fmt.Sprint(phase, deep)]; n < 20 && !(deep == 2 && phase == api.Fanned) {
				t.Errorf("too few: %d frames so deep (%d) in the phase %d", n, deep, phase)
			}
		}
	}
	for kind := api.EvMoved; kind <= api.EvJoined; kind++ {
		if kinds[kind] < 80 {
			t.Errorf("too few events: %v", kinds)
		}
	}
	for _, name := range []string{"", "e", outOfFuel, runtime, noChoice, parameters, resultPath} {
		if errors[name] < 5 {
			t.Errorf("too few ends: %v", errors)
		}
	}
	if fitting < byHand/4 || fitting > byHand*3/4 {
		t.Errorf("too few, or too many, of %d by hand fit: %d", byHand, fitting)
	}
}

// TestWhatNextAnswersApplyTakes holds P15.8: of runs, and of configurations by hand; what comes of a run fits, and has a turn at some now, till its end.
func TestWhatNextAnswersApplyTakes(t *testing.T) {
	r := rand.New(rand.NewSource(16))
	ended, done, hands := 0, 0, 0
	for range 1500 {
		m, in := randomMachine(r, 2), randomValue(r)
		c, now := kern.Begin(m, in, 1+r.Intn(12)), int64(0)
		for range 400 {
			root := c.Frames[0].Phase
			if root == api.Done || root == api.Failed {
				ended++
				if root == api.Done {
					done++
				}
				break
			}
			if !modelFits(m, c) || len(kern.Turns(m, c, last)) == 0 {
				t.Fatalf("no turn, or it doesn't fit: %+v\n%s", m, shown(c))
			}
			hand := randomConfig(r, c)
			for _, i := range kern.Turns(m, hand, now) {
				goes(t, m, in, hand, i, now, randomOutcome(r))
				hands++
			}
			step(t, r, m, in, &c, &now)
		}
	}
	if ended < 1300 || done < 200 || hands < 5000 {
		t.Errorf("too few: %d ends, %d of them Done, %d by hand", ended, done, hands)
	}
}

// isWithin tells whether a frame is one of another's parts, or of theirs, or that frame itself.
func isWithin(place, of []int) bool {
	return len(place) >= len(of) && slices.Equal(place[:len(of)], of)
}

// TestFramesApart holds P15.9: of two turns of frames apart either may be first.
func TestFramesApart(t *testing.T) {
	r := rand.New(rand.NewSource(17))
	both, events := 0, 0
	for range 2500 {
		m, in := randomMachine(r, 2), randomValue(r)
		c, now := kern.Begin(m, in, 2+r.Intn(12)), int64(0)
		for range 25 {
			turns := kern.Turns(m, c, now)
			for range len(turns) {
				i, j := oneOf(r, turns...), oneOf(r, turns...)
				p, q := c.Frames[i].Place, c.Frames[j].Place
				if isWithin(p, q) || isWithin(q, p) {
					continue
				}
				e, f := eventOf(t, m, in, c, i, now, r), eventOf(t, m, in, c, j, now, r)
				ahead, behind := taken(t, m, in, c, e), taken(t, m, in, c, f)
				if at := slices.IndexFunc(ahead.Frames, func(g api.Frame) bool { return slices.Equal(g.Place, q) }); at >= 0 && slices.Contains(kern.Turns(m, ahead, now), at) {
					events++
					if g, err := kern.Next(m, in, ahead, at, now, f.Outcome); err != nil || !same(g, f) {
						t.Fatalf("behind %+v the event %+v is %+v, %v: %+v\n%s", e, f, g, err, m, shown(c))
					}
				}
				x, wrongX := kern.Apply(m, in, ahead, f)
				y, wrongY := kern.Apply(m, in, behind, e)
				if wrongX != nil || wrongY != nil {
					continue
				}
				both++
				if !same(x, y) {
					t.Fatalf("%+v and %+v: %s\nand the other way round: %s", e, f, shown(x), shown(y))
				}
			}
			if _, went := step(t, r, m, in, &c, &now); !went {
				break
			}
		}
	}
	if both < 2000 || events < 2000 {
		t.Errorf("too few: %d, %d", both, events)
	}
}

func eventOf(t *testing.T, m api.Machine, in api.Value, c api.Config, i int, now int64, r *rand.Rand) api.Event {
	t.Helper()
	e, err := kern.Next(m, in, c, i, now, randomOutcome(r))
	if err != nil {
		t.Fatalf("Next of %d: %v", i, err)
	}
	return e
}

// TestAnAttemptHasOneKey holds P15.10: no two frames of one place; of a place Visit and Attempt never fall; no attempt is asked twice.
func TestAnAttemptHasOneKey(t *testing.T) {
	r := rand.New(rand.NewSource(18))
	asked, retried := 0, 0
	for range 2000 {
		m, in := randomMachine(r, 2), randomValue(r)
		c, now := kern.Begin(m, in, 2+r.Intn(12)), int64(0)
		was, keys := map[string]api.Frame{}, map[string]bool{}
		for range 120 {
			places := map[string]bool{}
			for _, f := range c.Frames {
				at := fmt.Sprint(f.Place)
				if g, is := was[at]; places[at] || is && (f.Visit < g.Visit || f.Visit == g.Visit && f.Attempt < g.Attempt) {
					t.Fatalf("%s twice, or back from the visit %d, %d: %s", at, g.Visit, g.Attempt, shown(c))
				}
				places[at], was[at] = true, f
			}
			e, went := step(t, r, m, in, &c, &now)
			if !went {
				break
			}
			if e.Kind != api.EvAsked {
				continue
			}
			f := c.Frames[slices.IndexFunc(c.Frames, func(f api.Frame) bool { return slices.Equal(f.Place, e.Place) })]
			key := fmt.Sprint(f.Place, f.Visit, f.Attempt)
			if keys[key] {
				t.Fatalf("asked twice: %s: %s", key, shown(c))
			}
			keys[key] = true
			asked++
			if f.Attempt > 1 {
				retried++
			}
		}
	}
	if asked < 3000 || retried < 200 {
		t.Errorf("too few: %d, %d", asked, retried)
	}
}

// allEnds gives all ends that a run can come to, by whatever turns, told as texts; a task whose resource is that of an error fails by it.
func allEnds(t *testing.T, m api.Machine, in api.Value, fuel int) map[string]bool {
	t.Helper()
	out, seen := map[string]bool{}, map[string]bool{}
	var visit func(c api.Config)
	visit = func(c api.Config) {
		if key := shown(c); seen[key] {
			return
		} else {
			seen[key] = true
		}
		f := c.Frames[0]
		switch f.Phase {
		case api.Done:
			out[json.Print(f.Result)] = true
			return
		case api.Failed:
			out["error "+f.Error] = true
			return
		}
		for _, i := range kern.Turns(m, c, last) {
			o := noOutcome
			if k, is := kern.Key(m, in, c, i); is {
				o = echo(k)
				if k.Resource != "r"+c.Frames[i].At {
					o = wrong(k.Resource, "")
				}
			}
			_, d := goes(t, m, in, c, i, last, o)
			visit(d)
		}
	}
	visit(kern.Begin(m, in, fuel))
	return out
}

// TestAllTurns holds ordinary runs with states of all eight types, by every choice of turns there is.
func TestAllTurns(t *testing.T) {
	bad := func(name, wrong string) api.State {
		s := task(name, "")
		s.Resource = wrong
		return s
	}
	choice := api.State{Name: "C", Type: api.Choice, Rules: []api.Rule{is("$", "2", "F")}, Default: "S"}
	item := machine(api.State{Name: "W", Type: api.Wait, WaitKind: 1, Seconds: 3, Next: "C"}, choice, api.State{Name: "S", Type: api.Succeed}, fails("F", "two", ""))
	each := mapped("M", "", 2, item)
	first := pass("A", "P")
	run := func(parts ...api.Machine) api.Machine { return machine(first, parallel("P", "", parts...)) }
	long := machine(pass("A", "T"), task("T", "W"), api.State{Name: "W", Type: api.Wait, WaitKind: 3, Until: api.Instant{Sec: 9}})
	for _, x := range []struct {
		m    api.Machine
		in   string
		want []string
	}{
		{run(machine(each), long), "[1,3,4]", []string{"[[1,3,4],[1,3,4]]"}},
		{run(machine(each), long), "[1,2,3]", []string{"error two"}},
		{run(machine(each), machine(bad("T", "e"))), "[1,2]", []string{"error two", "error e"}},
		{run(machine(bad("T", "e")), machine(bad("T", "f")), long), "7", []string{"error e", "error f"}},
		{run(), "7", []string{"[]"}},
		{machine(mapped("M", "", 1, machine(bad("T", "e")))), "[1,2]", []string{"error e"}},
		{machine(each), "[2,2]", []string{"error two"}},
		{machine(parallel("P", "", machine(each), machine(each))), "[5]", []string{"[[5],[5]]"}},
	} {
		got := allEnds(t, x.m, val(x.in), 6)
		if len(got) != len(x.want) || !slices.ContainsFunc(x.want, func(s string) bool { return got[s] }) {
			t.Errorf("%s: %v, want %v", x.in, got, x.want)
		}
		for _, s := range x.want {
			if !got[s] {
				t.Errorf("%s: %v, want %v", x.in, got, x.want)
			}
		}
	}
}

// TestSameAnswers holds R4: what is asked twice is answered alike, whatever was asked between.
func TestSameAnswers(t *testing.T) {
	r := rand.New(rand.NewSource(19))
	for range 300 {
		m, in := randomMachine(r, 2), randomValue(r)
		first, now := kern.Begin(m, in, 9), int64(0)
		second := first
		for range 20 {
			turns := kern.Turns(m, first, now)
			if len(turns) == 0 {
				break
			}
			i, o := oneOf(r, turns...), randomOutcome(r)
			e, c := goes(t, m, in, first, i, now, o)
			kern.Begin(randomMachine(r, 1), in, 3)
			f, d := goes(t, m, in, second, i, now, o)
			if !same(e, f) || !same(c, d) {
				t.Fatalf("twice: %+v, %+v; %s\n%s", e, f, shown(c), shown(d))
			}
			first, second = c, d
			now += int64(r.Intn(4))
		}
	}
}
