package drive_test

import (
	"bytes"
	"math/rand"
	"testing"

	"voyage/api"
	"voyage/disk"
	"voyage/drive"
	"voyage/dry"
)

// pair is an engine and the model, each on a disk of its own, of which the same is asked.
type pair struct {
	t        *testing.T
	r        *rand.Rand
	engine   *drive.Engine // nil: Open has answered an error
	model    *model
	disk     *disk.Disk
	tasks    *clerk
	asked    []api.Key // of the model
	restarts int
}

func newPair(t *testing.T, r *rand.Rand) *pair {
	p := &pair{t: t, r: r, disk: disk.New(), model: &model{disk: disk.New()}, tasks: &clerk{}}
	answers := drive.Answers(randomAnswers(r))
	p.tasks.does = answers.Do
	p.model.do = func(k api.Key) api.Outcome {
		p.asked = append(p.asked, k)
		return answers.Do(k)
	}
	p.open()
	return p
}

// open opens both anew.
func (p *pair) open() {
	p.t.Helper()
	e, err := drive.Open(p.disk, p.tasks)
	want := p.model.reopen()
	if !sameError(err, want) || (e == nil) != (want != nil) {
		p.t.Fatalf("Open: %v, %v; not %v", e, err, want)
	}
	p.engine = e
	p.restarts++
	p.look()
}

// look holds the engine's disk, its config, its history and who was asked against the model's.
func (p *pair) look() {
	p.t.Helper()
	got, want := p.disk, p.model.disk
	if !bytes.Equal(got.Bytes(), want.Bytes()) || got.Synced() != want.Synced() || got.Up() != want.Up() {
		p.t.Fatalf("the disk: %d bytes, %d safe, power %v; not %d, %d, %v", len(got.Bytes()), got.Synced(), got.Up(), len(want.Bytes()), want.Synced(), want.Up())
	}
	if !same(p.tasks.asked, p.asked) {
		p.t.Fatalf("asked: %+v\nnot %+v", p.tasks.asked, p.asked)
	}
	if p.engine == nil {
		return
	}
	if c := p.engine.Config(); !same(c, p.model.Config()) {
		p.t.Fatalf("Config: %s\nwant %s", shown(c), shown(p.model.Config()))
	}
	if l := p.engine.History(); !sameEvents(l, p.model.History()) {
		p.t.Fatalf("History: %s\nwant %s", shownEvents(l), shownEvents(p.model.History()))
	}
	if got, want := p.engine.Next(), p.model.Next(); got != want {
		p.t.Fatalf("Next: %d, not %d", got, want)
	}
}

func (p *pair) start(machine, input string, fuel int) {
	p.t.Helper()
	got, want := p.engine.Start(machine, input, fuel), p.model.Start(machine, input, fuel)
	if !sameError(got, want) {
		p.t.Fatalf("Start(%s, %s, %d): %v, not %v", machine, input, fuel, got, want)
	}
	p.look()
}

func (p *pair) step(pick int, now int64) error {
	p.t.Helper()
	got, err := p.engine.Step(pick, now)
	want, wantErr := p.model.Step(pick, now)
	if err != wantErr || !same(got, want) {
		p.t.Fatalf("Step(%d, %d): %s, %v\nwant %s, %v", pick, now, shownEvent(got), err, shownEvent(want), wantErr)
	}
	p.look()
	if err == nil && maybe(p.r, 3) {
		wantAlike(p.t, p.engine, p.disk)
	}
	return err
}

func (p *pair) turns(now int64) {
	p.t.Helper()
	if got, want := p.engine.Turns(now), p.model.Turns(now); got != want {
		p.t.Fatalf("Turns(%d): %d, not %d", now, got, want)
	}
}

func (p *pair) ended() bool {
	p.t.Helper()
	got, is, err := p.engine.Ended()
	want, wantIs, wantErr := p.model.Ended()
	if !same(got, want) || is != wantIs || err != wantErr {
		p.t.Fatalf("Ended: %+v, %v, %v; not %+v, %v, %v", got, is, err, want, wantIs, wantErr)
	}
	p.look()
	return is
}

func (p *pair) arm(n int) {
	p.disk.Arm(n)
	p.model.disk.Arm(n)
}

// crash lets the power go and come; what was safe must be found then, in front of what was added.
func (p *pair) crash(keep, at int, turn uint32) {
	p.t.Helper()
	safe := eventsIn(p.disk.Bytes()[:p.disk.Synced()])
	all := eventsIn(p.disk.Bytes())
	asked := len(p.tasks.asked)
	p.disk.Crash(keep, at, turn)
	p.model.disk.Crash(keep, at, turn)
	if maybe(p.r, 5) {
		p.arm(1 + p.r.Intn(2))
	}
	p.open()
	for p.engine == nil {
		p.disk.Crash(keep, at, turn)
		p.model.disk.Crash(keep, at, turn)
		p.open()
	}
	found := p.engine.History()
	if len(found) < len(safe) || len(found) > len(all) || !sameEvents(found, all[:len(found)]) {
		p.t.Fatalf("found: %s\nof %s\n%d of them safe", shownEvents(found), shownEvents(all), len(safe))
	}
	wantAlike(p.t, p.engine, p.disk)
	wantSynced(p.t, p.disk, true)
	if len(p.tasks.asked) != asked {
		p.t.Fatal("asked by Open")
	}
}

// eventsIn are the events that stand whole in a file.
func eventsIn(file []byte) []api.Event {
	m := &model{disk: holding(file, nil)}
	if err := m.reopen(); err != nil {
		panic(err)
	}
	return m.events
}

// play does something to both, at random; the time as it is then.
func (p *pair) play(machine, input string, fuel int, now int64) int64 {
	r := p.r
	switch r.Intn(24) {
	case 0:
		m, in, f := randomFault(r, machine, input, fuel)
		p.start(m, in, f)
	case 1:
		p.turns(randomTime(r, now))
	case 2:
		p.ended()
	case 3:
		if maybe(r, 2) {
			p.arm(1 + r.Intn(4))
		}
	case 4:
		if maybe(r, 3) {
			p.crash(oneOf(r, 0, r.Intn(80), 1<<20), oneOf(r, -1, r.Intn(400)), r.Uint32())
		}
	case 5, 6:
		if due := p.engine.Next(); due >= 0 {
			now = due
		}
	default:
		now = max(randomTime(r, now), 0)
		if now >= api.MaxTime {
			now = 0
		}
		p.step(randomPick(r), now)
	}
	return now
}

// TestAgainstModel holds P17.1 to P17.10 on random machines, under random calls, with the power going at random: all that can be seen of an engine is as it is of the model.
func TestAgainstModel(t *testing.T) {
	r := rand.New(rand.NewSource(17))
	var ends, restarts, asked, events int
	for range 600 {
		p := newPair(t, r)
		machine, input, fuel := randomMachine(r, r.Intn(3)), randomInput(r), 1+r.Intn(12)
		m, in, f := randomFault(r, machine, input, fuel)
		p.start(m, in, f)
		p.start(machine, input, fuel)
		now := int64(0)
		for range 10 + r.Intn(60) {
			now = p.play(machine, input, fuel, now)
		}
		if p.ended() {
			ends++
		}
		restarts, asked, events = restarts+p.restarts-1, asked+len(p.asked), events+len(p.model.events)
	}
	if ends < 150 || restarts < 300 || asked < 500 || events < 2000 {
		t.Errorf("too few: %d ends, %d restarts, %d asked, %d events", ends, restarts, asked, events)
	}
}

// TestMeaning holds T1 where no part wins over another one: a run that has ended comes to what dry.Run says, whatever was picked, and wherever the power went.
func TestMeaning(t *testing.T) {
	r := rand.New(rand.NewSource(29))
	fineEnds, badEnds := 0, 0
	for range 1500 {
		answers := randomAnswers(r)
		machine, input, fuel := randomMachine(r, r.Intn(3)), randomInput(r), 1+r.Intn(30)
		m, v, err := beginning(begun(machine, input, fuel))
		if err != nil {
			t.Fatalf("%s: %v", machine, err)
		}
		want, contests := dry.Run(m, v, answers, nil, fuel)
		if hasContest(contests) {
			continue
		}
		got, n := endOf(t, r, answers, machine, input, fuel)
		if n > want.Steps {
			t.Fatalf("%s: %d steps, not at most %d", machine, n, want.Steps)
		}
		want.Steps = 0
		if !same(got, want) {
			t.Fatalf("%s of %s comes to %+v, not %+v", machine, input, got, want)
		}
		if want.Fine {
			fineEnds++
		} else {
			badEnds++
		}
	}
	if fineEnds < 250 || badEnds < 250 {
		t.Errorf("too few: %d fine ends, %d others", fineEnds, badEnds)
	}
}

func hasContest(contests []api.Contest) bool {
	for _, c := range contests {
		if len(c.Parts) > 1 {
			return true
		}
	}
	return false
}

// endOf is what a run comes to, with crashes here and there, and how many events it took behind the beginning.
func endOf(t *testing.T, r *rand.Rand, answers []api.Answer, machine, input string, fuel int) (api.Report, int) {
	t.Helper()
	e, d := started(t, drive.Answers(answers), machine, input, fuel)
	now := int64(0)
	for {
		if maybe(r, 20) {
			d.Arm(1 + r.Intn(3))
		}
		_, err := e.Step(r.Intn(5), now)
		switch {
		case err == api.ErrDown:
			d.Crash(r.Intn(60), r.Intn(300)-100, r.Uint32())
			e = opened(t, d, drive.Answers(answers))
		case err == api.ErrState && e.Next() >= 0:
			now = e.Next()
		case err == api.ErrState:
			report, is, err := e.Ended()
			if err == api.ErrDown {
				d.Crash(r.Intn(60), -1, 0)
				e = opened(t, d, drive.Answers(answers))
				continue
			}
			if !is {
				t.Fatalf("no end: %s", shown(e.Config()))
			}
			return report, len(e.History()) - 1
		}
	}
}

// toEnd takes a run of allTypes to its end, from wherever it stands; false: the power has gone.
func toEnd(t *testing.T, e *drive.Engine) bool {
	t.Helper()
	const input = `{"ok":true}`
	if len(e.History()) == 0 {
		if e.Start(allTypes, input, 20) == api.ErrDown {
			return false
		}
	}
	now := int64(0)
	for {
		if _, err := e.Step(int(now), now); err == api.ErrDown {
			return false
		}
		report, is, err := e.Ended()
		if err == api.ErrDown {
			return false
		}
		if is {
			if want := (api.Report{Fine: true, Output: val("[1,true]")}); !same(report, want) {
				t.Fatalf("the end: %+v", report)
			}
			return true
		}
		now++
	}
}

// TestPowerEverywhere holds P17.9 of one run with the power going in each of its acts, and crashes that keep and tear what wasn't safe: what is found is a beginning of what was added, with all that was safe; and it goes on to the same end.
func TestPowerEverywhere(t *testing.T) {
	answers := drive.Answers([]api.Answer{answer("r", 1, wrong("again", "")), answer("r", 0, fine("[9]"))})
	acts := 0
	for gone := true; gone; acts++ {
		for _, c := range []struct {
			keep, at int
			turn     uint32
		}{{0, -1, 0}, {1, -1, 0}, {13, -1, 0}, {1 << 20, -1, 0}, {1 << 20, 0, 1 << 31}, {1 << 20, 40, 0xFFFFFFFF}, {1 << 20, 100, 5}} {
			d := disk.New()
			e := opened(t, d, answers)
			d.Arm(acts + 1)
			if gone = !toEnd(t, e); !gone {
				break
			}
			known, safe := e.History(), eventsIn(d.Bytes()[:d.Synced()])
			all := eventsIn(d.Bytes())
			if len(all) < len(known) || len(all) > len(known)+1 || !sameEvents(all[:len(known)], known) {
				t.Fatalf("act %d: on the disk %s\nknown %s", acts+1, shownEvents(all), shownEvents(known))
			}
			d.Crash(c.keep, c.at, c.turn)
			again := opened(t, d, answers)
			found := again.History()
			if len(found) < len(safe) || len(found) > len(all) || !sameEvents(found, all[:len(found)]) || c.keep == 0 && len(found) != len(safe) || c.keep > 1<<19 && c.at < 0 && len(found) != len(all) {
				t.Fatalf("act %d, %+v: found %s\nof %s\n%d of them safe", acts+1, c, shownEvents(found), shownEvents(all), len(safe))
			}
			wantAlike(t, again, d)
			if !toEnd(t, again) {
				t.Fatal("the power is on")
			}
		}
	}
	if acts < 25 {
		t.Fatalf("only %d acts", acts)
	}
}
