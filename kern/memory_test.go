package kern_test

import (
	"math/rand"
	"reflect"
	"slices"
	"sync"
	"testing"

	"voyage/api"
	"voyage/kern"
)

// room is the memory of a list, its spare room too.
type room struct{ from, to uintptr }

// rooms gives the memory of all lists within something, and within their spare room.
func rooms(things ...any) []room {
	var out []room
	var walk func(v reflect.Value)
	walk = func(v reflect.Value) {
		switch v.Kind() {
		case reflect.Struct:
			for i := range v.NumField() {
				walk(v.Field(i))
			}
		case reflect.Slice:
			if v.Cap() == 0 {
				return
			}
			out = append(out, room{v.Pointer(), v.Pointer() + uintptr(v.Cap())*v.Type().Elem().Size()})
			whole := v.Slice(0, v.Cap())
			for i := range whole.Len() {
				walk(whole.Index(i))
			}
		}
	}
	for _, thing := range things {
		walk(reflect.ValueOf(thing))
	}
	return out
}

// wantOwn wants that no two lists of an answer share memory, and none with what was handed in.
func wantOwn(t *testing.T, what string, answer any, handed ...any) {
	t.Helper()
	type owned struct {
		room
		answered bool
	}
	var all []owned
	for _, r := range rooms(answer) {
		all = append(all, owned{r, true})
	}
	for _, r := range rooms(handed...) {
		all = append(all, owned{r, false})
	}
	slices.SortFunc(all, func(a, b owned) int { return int(a.from) - int(b.from) })
	reach := owned{}
	for _, x := range all {
		if x.from < reach.to && (x.answered || reach.answered) {
			t.Fatalf("%s: lists share memory", what)
		}
		if x.to > reach.to {
			reach = x
		}
	}
}

// roomy gives a copy of something all of whose lists have spare room, with something in it.
func roomy[T any](thing T) T {
	v := reflect.ValueOf(&thing).Elem()
	makeRoomy(v)
	return thing
}

func makeRoomy(v reflect.Value) {
	switch v.Kind() {
	case reflect.Struct:
		for i := range v.NumField() {
			makeRoomy(v.Field(i))
		}
	case reflect.Slice:
		n := v.Len()
		list := reflect.MakeSlice(v.Type(), n+2, n+2)
		reflect.Copy(list, v)
		for i := range n {
			makeRoomy(list.Index(i))
		}
		for i := n; i < n+2; i++ {
			mark(list.Index(i))
		}
		v.Set(list.Slice(0, n))
	}
}

// mark fills something with what is easily told from all else.
func mark(v reflect.Value) {
	switch v.Kind() {
	case reflect.Struct:
		for i := range v.NumField() {
			mark(v.Field(i))
		}
	case reflect.Int, reflect.Int64:
		v.SetInt(77)
	case reflect.String:
		v.SetString("spare")
	case reflect.Bool:
		v.SetBool(true)
	}
}

// whole gives a copy of something all of whose lists are as long as their room was.
func whole[T any](thing T) T {
	v := reflect.ValueOf(&thing).Elem()
	makeWhole(v)
	return thing
}

func makeWhole(v reflect.Value) {
	switch v.Kind() {
	case reflect.Struct:
		for i := range v.NumField() {
			makeWhole(v.Field(i))
		}
	case reflect.Slice:
		list := reflect.MakeSlice(v.Type(), v.Cap(), v.Cap())
		reflect.Copy(list, v.Slice(0, v.Cap()))
		for i := range list.Len() {
			makeWhole(list.Index(i))
		}
		v.Set(list)
	}
}

// spoil writes over all lists of something, their spare room too.
func spoil(v reflect.Value) {
	switch v.Kind() {
	case reflect.Struct:
		for i := range v.NumField() {
			spoil(v.Field(i))
		}
	case reflect.Slice:
		list := v.Slice(0, v.Cap())
		for i := range list.Len() {
			spoil(list.Index(i))
			mark(list.Index(i))
		}
	}
}

// args are the arguments of the calls.
type args struct {
	M api.Machine
	I api.Value
	C api.Config
	E api.Event
	O api.Outcome
}

// stays wants that arguments are as they were, their spare room too.
func stays(t *testing.T, what string, a, was args) {
	t.Helper()
	if !same(whole(a), was) {
		t.Fatalf("%s: what was handed in is another", what)
	}
}

// TestMemory holds P15.7: what is handed in is neither changed nor kept, what is answered is new memory, of each list its own; spare room too.
func TestMemory(t *testing.T) {
	r := rand.New(rand.NewSource(20))
	frames := 0
	for range 80 {
		m, in := randomMachine(r, 2), randomValue(r)
		if maybe(r, 3) { // many frames at once, also behind the first one that fails
			m = machine(parallel("P", "", randomMachine(r, 1), randomMachine(r, 1), randomMachine(r, 1), randomMachine(r, 1)))
			m.States[0].Retry = []api.Retrier{retries(9, all)}
		}
		c, now := kern.Begin(m, in, 12), int64(0)
		for range 25 {
			if maybe(r, 3) {
				c.Frames = slices.Clone(c.Frames)
				c.Frames[r.Intn(len(c.Frames))].Raw = randomOutcome(r).Value
			}
			turns := kern.Turns(m, c, now)
			if len(turns) == 0 {
				break
			}
			i, o := oneOf(r, turns...), randomOutcome(r)
			e, d := goes(t, m, in, c, i, now, o)
			frames = max(frames, len(d.Frames))
			checkMemory(t, args{m, in, c, e, o}, i, now)
			c = d
			if due := nextDue(c); due > now && maybe(r, 2) {
				now = due
			}
		}
	}
	if frames < 8 {
		t.Errorf("too few frames: %d", frames)
	}
}

func checkMemory(t *testing.T, plain args, i int, now int64) {
	t.Helper()
	a := roomy(plain)
	was := whole(a)
	begun := kern.Begin(a.M, a.I, 5)
	turns := kern.Turns(a.M, a.C, now)
	key, _ := kern.Key(a.M, a.I, a.C, i)
	event, err := kern.Next(a.M, a.I, a.C, i, now, a.O)
	behind, wrong := kern.Apply(a.M, a.I, a.C, a.E)
	stays(t, "the calls", a, was)
	if err != nil || wrong != nil {
		t.Fatalf("with spare room: %v, %v", err, wrong)
	}
	if _, err := kern.Apply(a.M, a.I, a.C, api.Event{Kind: 9}); err == nil {
		t.Fatal("an event that can't be")
	}
	stays(t, "an event that can't be", a, was)
	answers := []any{begun, turns, key, event, behind}
	for n, answer := range answers {
		others := slices.Concat([]any{a}, answers[:n])
		wantOwn(t, reflect.TypeOf(answer).Name(), answer, others...)
	}
	wantBegun, wantKey, wantEvent, wantBehind, wantTurns := whole(begun), whole(key), whole(event), whole(behind), whole(turns)
	spoil(reflect.ValueOf(&a).Elem())
	if !same(whole(begun), wantBegun) || !same(whole(key), wantKey) || !same(whole(event), wantEvent) || !same(whole(behind), wantBehind) || !slices.Equal(whole(turns), wantTurns) {
		t.Fatal("an answer changes with what was handed in")
	}
	for _, answer := range []reflect.Value{reflect.ValueOf(&begun), reflect.ValueOf(&key), reflect.ValueOf(&event), reflect.ValueOf(&behind), reflect.ValueOf(&turns)} {
		spoil(answer.Elem())
	}
	b := roomy(plain) // what was spoilt is kept nowhere
	if again, err := kern.Apply(b.M, b.I, b.C, b.E); err != nil || !same(whole(again), wantBehind) {
		t.Fatal("an answer hangs on what was handed in ahead of it")
	}
}

// TestPartsOwnMemory holds P15.7 where many lists tell the same: the input of a fan-out is that of all its parts, an item is its part's input, too.
func TestPartsOwnMemory(t *testing.T) {
	part := machine(task("T", ""))
	in := val(`[[1,2],{"a":[3]},[[4]]]`)
	same := parallel("P", "", part, part, part)
	fixed := pass("F", "")
	fixed.HasFixed, fixed.Fixed = true, in
	for _, s := range []api.State{same, mapped("M", "", 0, part), fixed, {Name: "S", Type: api.Succeed}} {
		m := machine(s)
		c := kern.Begin(m, in, 5)
		wantOwn(t, "Begin", c, m, in)
		d := taken(t, m, in, c, event(api.EvMoved))
		wantOwn(t, "Apply", d, m, in, c)
	}
	m := machine(parallel("P", "", part, part))
	done := phased(at("T", 1, 1, 0), api.Done)
	done.Result = in
	other := phased(at("T", 1, 1, 1), api.Done)
	other.Result = in
	c := config(phased(at("P"), api.Fanned), done, other)
	wantOwn(t, "EvJoined", taken(t, m, in, c, event(api.EvJoined)), m, in, c)
	c = config(phased(at("T"), api.Asked))
	told := toldEvent(api.Outcome{Fine: true, Value: in})
	wantOwn(t, "EvTold", taken(t, part, in, c, told), part, in, c, told)
	e, err := kern.Next(part, in, c, 0, 0, told.Outcome)
	if err != nil {
		t.Fatal(err)
	}
	wantOwn(t, "Next", e, part, in, c, told)
}

// TestSideBySide holds R4: calls that run side by side with the same arguments know nothing of one another.
func TestSideBySide(t *testing.T) {
	m, in := machine(mapped("M", "", 0, machine(task("T", "")))), val(`[[1],[2],[3]]`)
	c := taken(t, m, in, kern.Begin(m, in, 9), event(api.EvMoved))
	want := taken(t, m, in, c, event(api.EvAsked, 1, 1, 1))
	var all sync.WaitGroup
	for range 8 {
		all.Go(func() {
			for range 200 {
				e, err := kern.Next(m, in, c, 2, 0, noOutcome)
				d, wrong := kern.Apply(m, in, c, e)
				if err != nil || wrong != nil || !same(d, want) {
					t.Errorf("side by side: %v, %v", err, wrong)
					return
				}
				spoil(reflect.ValueOf(&d).Elem())
				spoil(reflect.ValueOf(&e).Elem())
			}
		})
	}
	all.Wait()
}
