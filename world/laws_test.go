package world_test

import (
	"math/rand"
	"slices"
	"testing"

	"voyage/api"
	"voyage/world"
)

// TestAgainstModel holds P18.1 to P18.4 on random machines, under random scripts of acts: each reply, and all that can be looked at, is as the model has it.
func TestAgainstModel(t *testing.T) {
	r := rand.New(rand.NewSource(18))
	seen := map[string]int{}
	for range 1500 {
		b := randomBeginning(r, 2)
		w, m := world.New(b.answers), newModel(b.answers)
		for i := range 8 + r.Intn(50) {
			var acts []api.Act
			if i < 3 {
				acts = append(acts, oneOf(r, b.start(), b.start(), b.spoilt(r)))
			}
			for range r.Intn(4) {
				acts = append(acts, randomAct(r, b))
			}
			if maybe(r, 400) {
				acts = append(acts, ticks(oneOf[int64](r, api.MaxTime, api.MaxTime-2)))
			}
			got := w.Do(acts...)
			if len(got) != len(acts) {
				t.Fatalf("%d replies to %d acts", len(got), len(acts))
			}
			for j, a := range acts {
				if want := m.do(a); !same(got[j], want) {
					t.Fatalf("%s of %s: act %d, %+v: %s\nwant %s", b.machine, b.input, j, a, shownReply(got[j]), shownReply(want))
				}
				count(seen, a, got[j])
			}
			wantModel(t, w, m)
			if m.over() && maybe(r, 5) {
				break
			}
		}
	}
	for _, what := range []string{"start", "fault", "step", "down", "not now", "tick", "restart", "lost", "ended", "go", "go down", "argument"} {
		if seen[what] < 50 {
			t.Errorf("too few: %v", seen)
		}
	}
}

// count tells what sorts of replies there were.
func count(seen map[string]int, a api.Act, p api.Reply) {
	_, isFault := p.Err.(*api.Fault)
	for what, is := range map[string]bool{
		"start": a.Kind == 1 && p.Err == nil, "fault": isFault,
		"step": a.Kind == 2 && p.Err == nil, "down": a.Kind == 2 && p.Err == api.ErrDown, "not now": a.Kind == 2 && p.Err == api.ErrState,
		"tick": a.Kind == 3 && p.Err == nil, "restart": a.Kind == 5 && p.Err == nil, "lost": a.Kind == 5 && p.Err != nil,
		"ended": p.Ended, "go": a.Kind == 7 && p.Event.Kind != 0, "go down": a.Kind == 7 && p.Err != nil, "argument": p.Err == api.ErrArg,
	} {
		if is {
			seen[what]++
		}
	}
}

// wantModel holds all that can be looked at against the model's.
func wantModel(t *testing.T, w *world.World, m *model) {
	t.Helper()
	wantNow(t, w, m.now)
	wantBytes(t, w, m.disk.Synced(), m.disk.Bytes())
	wantAsked(t, w, m.asked...)
	wantHistory(t, w, m.events...)
	wantFrames(t, w, m.Config().Fuel, m.Config().Frames...)
}

// TestLaws holds P18.5 to P18.8, P18.10 and T8 on random machines under random acts, act by act, and then with a go to the end.
func TestLaws(t *testing.T) {
	r := rand.New(rand.NewSource(5))
	seen := map[string]int{}
	for range 700 {
		b := randomBeginning(r, 2)
		o := observe(t, b, seen)
		o.do(b.start())
		for range 5 + r.Intn(60) {
			o.do(randomAct(r, b))
		}
		o.do(randomCrash(r))
		o.do(restarts(1000, -1, 0))
		if len(o.known) == 0 {
			o.do(b.start())
		}
		o.holdGoes(o.end())
	}
	for _, what := range []string{"fine", "bad", "no contest", "contests", "not the least", "several contests", "lost events", "asked again", "retries", "deadlines found again"} {
		if seen[what] < 50 {
			t.Errorf("too few: %v", seen)
		}
	}
}

// TestCrashEverywhere holds the same of single runs: the power goes in each act of the disk, wherever that is, and whatever it leaves of the tail; the run goes on by other turns, and the power goes again.
func TestCrashEverywhere(t *testing.T) {
	r := rand.New(rand.NewSource(6))
	seen, many := map[string]int{}, 0
	for range 40 {
		b := randomBeginning(r, 1)
		picks := r.Perm(7)
		for n := int64(1); ; n++ {
			if goneAt := crashAt(t, r, b, n, picks, seen); !goneAt {
				break
			}
			many++
		}
	}
	if many < 300 {
		t.Errorf("too few: %d, %v", many, seen)
	}
}

// crashAt plays a run with the power going in the n-th act of its disk; false: there are fewer.
func crashAt(t *testing.T, r *rand.Rand, b beginnings, n int64, picks []int, seen map[string]int) bool {
	t.Helper()
	gone := false
	for _, crash := range []api.Act{restarts(0, -1, 0), restarts(1<<20, -1, 0), restarts(7, -1, 0), restarts(1<<20, r.Intn(300), r.Uint32()|1<<31), restarts(1<<20, 0, 1<<31)} {
		o := observe(t, b, seen)
		o.do(arms(n))
		down := o.do(b.start()).Err == api.ErrDown
		for i := 0; !down && !o.over(); i++ {
			if p := o.do(steps(int64(picks[i%len(picks)]))); p.Err == api.ErrState {
				down = o.do(goes(1)).Err == api.ErrDown
			} else {
				down = p.Err == api.ErrDown
			}
		}
		if !down {
			down = o.do(ends()).Err == api.ErrDown
		}
		if !down {
			return false
		}
		gone = true
		o.do(crash)
		o.do(restarts(0, -1, 0))
		if len(o.known) == 0 {
			o.do(b.start())
		}
		for i := range 5 {
			o.do(steps(int64(picks[6-i])))
		}
		o.do(arms(int64(1 + r.Intn(4))))
		o.do(goes(3))
		o.do(crash)
		if len(o.known) == 0 {
			o.do(b.start())
		}
		o.end()
	}
	return gone
}

// TestNoStateMissing holds T8: a machine in which nothing else brings about States.Runtime never ends so; one of which a state is missing is never begun.
func TestNoStateMissing(t *testing.T) {
	r := rand.New(rand.NewSource(8))
	seen := map[string]int{}
	for range 400 {
		b := randomBeginning(r, 2)
		b.machine = maker{r: r, sure: true}.machine(r.Intn(3))
		o := observe(t, b, seen)
		o.do(b.start())
		for range 40 {
			a := randomAct(r, b)
			if a.Kind != 5 || a.N == 0 {
				o.do(a)
			}
		}
		o.do(restarts(1000, -1, 0))
		if len(o.known) == 0 {
			o.do(b.start())
		}
		if report := o.end(); report.Error == "States.Runtime" {
			t.Fatalf("%s of %s: %s\n%s", b.machine, b.input, shownReport(report), shownEvents(o.known))
		}
	}
	if seen["fine"] < 50 || seen["bad"] < 50 {
		t.Errorf("too few: %v", seen)
	}
}

// TestMissingIsRefused holds the other half of T8: what isn't there is told by the start, wherever it is named.
func TestMissingIsRefused(t *testing.T) {
	for where, machine := range map[string]string{
		"$.StartAt":                                  `{"StartAt":"z","States":{"a":{"Type":"Succeed"}}}`,
		"$.States.a.Next":                            `{"StartAt":"a","States":{"a":{"Type":"Task","Resource":"r","Next":"z"}}}`,
		"$.States.a.Catch[0].Next":                   `{"StartAt":"a","States":{"a":{"Type":"Task","Resource":"r","End":true,"Catch":[{"ErrorEquals":["e"],"Next":"z"}]}}}`,
		"$.States.a.Default":                         `{"StartAt":"a","States":{"a":{"Type":"Choice","Choices":[{"Variable":"$","IsNull":true,"Next":"b"}],"Default":"z"},"b":{"Type":"Succeed"}}}`,
		"$.States.a.Choices[0].Next":                 `{"StartAt":"a","States":{"a":{"Type":"Choice","Choices":[{"Variable":"$","IsNull":true,"Next":"z"}],"Default":"b"},"b":{"Type":"Succeed"}}}`,
		"$.States.a.Branches[1].StartAt":             `{"StartAt":"a","States":{"a":{"Type":"Parallel","End":true,"Branches":[{"StartAt":"b","States":{"b":{"Type":"Succeed"}}},{"StartAt":"a","States":{"b":{"Type":"Succeed"}}}]}}}`,
		"$.States.a.Iterator.States.b.Next":          `{"StartAt":"a","States":{"a":{"Type":"Map","End":true,"Iterator":{"StartAt":"b","States":{"b":{"Type":"Pass","Next":"a"}}}}}}`,
		"$.States.a.Branches[0].States.b.Next":       `{"StartAt":"a","States":{"a":{"Type":"Parallel","End":true,"Branches":[{"StartAt":"b","States":{"b":{"Type":"Pass","Next":"a"}}}]}}}`,
		"$.States.a.Iterator.States.b.Catch[0].Next": `{"StartAt":"a","States":{"a":{"Type":"Map","End":true,"Iterator":{"StartAt":"b","States":{"b":{"Type":"Task","Resource":"r","End":true,"Catch":[{"ErrorEquals":["e"],"Next":"a"}]}}}}}}`,
	} {
		w := world.New(nil)
		play(t, w, line{starts(machine, "1", 5), fails(&api.Fault{Where: where, Err: api.ErrTarget})}, line{goes(9), nothing()}, line{steps(0), fails(api.ErrState)})
		wantBlank(t, w)
		wantBytes(t, w, 0, nil)
	}
}

// TestSideBySide holds R4: worlds side by side know nothing of one another, and one script comes to the same in each.
func TestSideBySide(t *testing.T) {
	r := rand.New(rand.NewSource(9))
	for range 60 {
		b, other := randomBeginning(r, 2), randomBeginning(r, 2)
		one, two, third := world.New(b.answers), world.New(b.answers), world.New(other.answers)
		one.Do(b.start())
		two.Do(b.start())
		third.Do(other.start())
		for range 40 {
			acts := []api.Act{randomAct(r, b), randomAct(r, b)}
			got := one.Do(acts...)
			third.Do(randomAct(r, other), randomAct(r, other))
			if want := []api.Reply{two.Do(acts[0])[0], two.Do(acts[1])[0]}; !same(got, want) {
				t.Fatalf("%+v: %+v\nnot %+v", acts, got, want)
			}
			b1, n1 := one.Bytes()
			b2, n2 := two.Bytes()
			if !slices.Equal(b1, b2) || n1 != n2 || !same(one.History(), two.History()) || !same(one.Config(), two.Config()) || !same(one.Asked(), two.Asked()) || one.Now() != two.Now() {
				t.Fatalf("%+v: unlike worlds", acts)
			}
		}
	}
}
