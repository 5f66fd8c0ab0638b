package drive_test

import (
	"reflect"
	"slices"
	"testing"

	"voyage/api"
	"voyage/drive"
)

// all is a list with all its spare room.
func all[T any](list []T) []T { return list[:cap(list)] }

// roomy is a list in memory with spare room, which spare stands in.
func roomy[T any](list []T, spare ...T) []T {
	with := slices.Concat(list, spare)
	return with[:len(list)]
}

// roomyValue is a value all of whose lists have spare room.
func roomyValue(v api.Value) api.Value {
	list, fields := slices.Clone(v.List), slices.Clone(v.Fields)
	for i := range list {
		list[i] = roomyValue(list[i])
	}
	for i := range fields {
		fields[i].Value = roomyValue(fields[i].Value)
	}
	v.List, v.Fields = roomy(list, val("8"), val("9")), roomy(fields, api.Field{Name: "spare"}, api.Field{Name: "a", Value: val("9")})
	return v
}

// whole is a thing all of whose lists are as long as their room, in memory of its own.
func whole[T any](thing T) T {
	return wholeOfThing(reflect.ValueOf(thing)).Interface().(T)
}

func wholeOfThing(v reflect.Value) reflect.Value {
	switch v.Kind() {
	case reflect.Slice:
		own := reflect.MakeSlice(v.Type(), v.Cap(), v.Cap())
		for i := range v.Cap() {
			own.Index(i).Set(wholeOfThing(v.Slice(0, v.Cap()).Index(i)))
		}
		return own
	case reflect.Struct:
		own := reflect.New(v.Type()).Elem()
		for i := range v.NumField() {
			own.Field(i).Set(wholeOfThing(v.Field(i)))
		}
		return own
	}
	return v
}

// lists gives all the lists of a thing, those in lists too.
func lists(v reflect.Value) []reflect.Value {
	var found []reflect.Value
	switch v.Kind() {
	case reflect.Slice:
		for i := range v.Len() {
			found = append(found, lists(v.Index(i))...)
		}
		own := reflect.New(v.Type()).Elem() // a list that is told elsewhere, too, stays when that place is written over
		own.Set(v)
		found = append(found, own)
	case reflect.Struct:
		for i := range v.NumField() {
			found = append(found, lists(v.Field(i))...)
		}
	}
	return found
}

// spoilList writes over a list, its spare room too; what stands in it stays where it is.
func spoilList(l reflect.Value) {
	whole := l.Slice(0, l.Cap())
	for i := range whole.Len() {
		switch x := whole.Index(i).Addr().Interface().(type) {
		case *int:
			*x = -77
		case *api.Value:
			*x = val(`"spoilt"`)
		case *api.Field:
			*x = api.Field{Name: "spoilt"}
		case *api.Frame:
			*x = api.Frame{At: "spoilt"}
		case *api.Event:
			*x = api.Event{Kind: 9}
		case *api.Answer:
			*x = api.Answer{Resource: "spoilt", Outcome: wrong("spoilt", "")}
		default:
			panic("a list of something else")
		}
	}
}

// spoil writes over all the lists of a thing, the innermost ones first.
func spoil(thing any) {
	for _, l := range lists(reflect.ValueOf(thing)) {
		spoilList(l)
	}
}

const richInput = `{"l":[[1,2],{"a":[3]},[]],"o":{"p":{"q":[4,5]}}}`

// richMachine keeps lists in all that runs: items, results, retriers that are charged.
const richMachine = `{"StartAt":"m","States":{
	"m":{"Type":"Map","ItemsPath":"$.l","ResultPath":"$.m","Next":"t","Iterator":{"StartAt":"i","States":{
		"i":{"Type":"Task","Resource":"r","Retry":[{"ErrorEquals":["e"]},{"ErrorEquals":["f"]}],"ResultPath":null,"End":true}}}},
	"t":{"Type":"Task","Resource":"s","Next":"z"},
	"z":{"Type":"Succeed"}}}`

func richAnswers() []api.Answer {
	return []api.Answer{answer("r", 1, wrong("f", "")), answer("r", 0, fine(richInput)), answer("s", 0, fine(richInput))}
}

// richSteps are picks and times that take a run of richMachine to its end.
func richSteps(t *testing.T, e *drive.Engine, each func()) {
	t.Helper()
	for now := range int64(60) {
		if _, err := e.Step(int(now*7), now); err != nil && err != api.ErrState {
			t.Fatal(err)
		}
		each()
	}
	if r, is, err := e.Ended(); !r.Fine || !is || err != nil {
		t.Fatalf("no fine end: %s", shown(e.Config()))
	}
}

// TestAnsweredIsNew holds R3: whatever an engine answers may be written over, its spare room too; the engine goes on as one whose answers were left alone.
func TestAnsweredIsNew(t *testing.T) {
	plain, plainDisk := started(t, drive.Answers(richAnswers()), richMachine, richInput, 20)
	e, d := started(t, drive.Answers(richAnswers()), richMachine, richInput, 20)
	for now := range int64(60) {
		want, wantErr := plain.Step(int(now*7), now)
		got, err := e.Step(int(now*7), now)
		if err != wantErr || !same(got, want) {
			t.Fatalf("Step: %s, %v; not %s, %v", shownEvent(got), err, shownEvent(want), wantErr)
		}
		spoil(got)
		spoil(e.Config())
		spoil(e.History())
		r, _, _ := e.Ended()
		spoil(r)
		plain.Ended()
		if !same(e.Config(), plain.Config()) || !sameEvents(e.History(), plain.History()) {
			t.Fatalf("%s\n%s\nnot %s\n%s", shown(e.Config()), shownEvents(e.History()), shown(plain.Config()), shownEvents(plain.History()))
		}
		if !slices.Equal(d.Bytes(), plainDisk.Bytes()) {
			t.Fatal("the disks are unlike")
		}
	}
	got, is, _ := e.Ended()
	want, _, _ := plain.Ended()
	if !is || !got.Fine || !same(got, want) {
		t.Fatalf("Ended: %+v, %v", got, is)
	}
}

// TestAnsweredStays holds R3: what was answered is as it was, its spare room too, whatever is done later.
func TestAnsweredStays(t *testing.T) {
	e, d := started(t, drive.Answers(richAnswers()), richMachine, richInput, 20)
	var answered, was []any
	keep := func(thing, copy any) { answered, was = append(answered, thing), append(was, copy) }
	richSteps(t, e, func() {
		c, h := e.Config(), e.History()
		r, _, _ := e.Ended()
		keep(c, whole(c))
		keep(h, whole(h))
		keep(r, whole(r))
	})
	again := opened(t, d, nil)
	h := again.History()
	keep(h, whole(h))
	for i, thing := range answered {
		if got := wholeOfThing(reflect.ValueOf(thing)).Interface(); !reflect.DeepEqual(got, was[i]) {
			t.Fatalf("what was answered is another: %+v\nnot %+v", got, was[i])
		}
	}
}

// TestListsApart holds R3: of the lists of one answer each can be written over, spare room too, and the others stay.
func TestListsApart(t *testing.T) {
	e, _ := started(t, drive.Answers(richAnswers()), richMachine, richInput, 20)
	apart := func(answer func() reflect.Value) {
		t.Helper()
		n := len(lists(answer()))
		for i := range n {
			thing := answer()
			found := lists(thing)
			before := make([]reflect.Value, n)
			for j, l := range found {
				before[j] = wholeOfThing(l)
			}
			spoilList(found[i])
			for j, l := range found {
				if holds(found[j], found[i]) {
					continue
				}
				if !reflect.DeepEqual(wholeOfThing(l).Interface(), before[j].Interface()) {
					t.Fatalf("lists %d and %d of one answer share memory: %+v", i, j, thing.Interface())
				}
			}
		}
	}
	richSteps(t, e, func() {
		apart(func() reflect.Value { return reflect.ValueOf(e.Config()) })
		if len(e.History()) < 9 {
			apart(func() reflect.Value { return reflect.ValueOf(e.History()) })
		}
	})
	apart(func() reflect.Value {
		r, _, _ := e.Ended()
		return reflect.ValueOf(r)
	})
}

// holds tells whether the one list is, or holds, the other one.
func holds(list, other reflect.Value) bool {
	for _, l := range lists(list) {
		if l.Len() == other.Len() && l.Pointer() == other.Pointer() {
			return true
		}
	}
	return false
}

// TestStepListsApart holds R3 of the event that Step answers: neither the config nor History has its lists, nor the tasks that told its outcome.
func TestStepListsApart(t *testing.T) {
	var outcomes []api.Outcome
	tasks := &clerk{}
	tasks.does = func(k api.Key) api.Outcome {
		o := api.Outcome{Fine: true, Value: roomyValue(val(richInput))}
		outcomes = append(outcomes, o)
		return o
	}
	plain, _ := started(t, drive.Answers(richAnswers()[1:]), richMachine, richInput, 20)
	e, d := started(t, tasks, richMachine, richInput, 20)
	for now := range int64(30) {
		want, _ := plain.Step(0, now)
		got, _ := e.Step(0, now)
		if !same(got, want) {
			t.Fatalf("%s, not %s", shownEvent(got), shownEvent(want))
		}
		for _, o := range outcomes {
			spoil(o)
		}
		if !same(got, want) {
			t.Fatalf("what tasks answered is kept: %s, not %s", shownEvent(got), shownEvent(want))
		}
		if !same(e.Config(), plain.Config()) || !sameEvents(e.History(), plain.History()) {
			t.Fatalf("what tasks answered is kept: %s", shown(e.Config()))
		}
	}
	if _, is, _ := e.Ended(); !is || len(outcomes) != 4 {
		t.Fatalf("%d outcomes; %s", len(outcomes), shown(e.Config()))
	}
	wantAlike(t, e, d)
}

// TestOutcomeStays holds R3: what tasks answer is as it was, its spare room too, when the run goes on.
func TestOutcomeStays(t *testing.T) {
	answers := api.Outcome{Fine: true, Value: roomyValue(val(richInput))}
	was := whole(answers)
	e, _ := started(t, &clerk{does: func(api.Key) api.Outcome { return answers }}, richMachine, richInput, 20)
	richSteps(t, e, func() { spoil(e.Config()) })
	if !reflect.DeepEqual(whole(answers), was) {
		t.Fatalf("what tasks answered was changed: %+v", answers)
	}
}

// TestKeyIsNew holds P17.2: the key that tasks are handed is new memory: it may be written over, spare room too, and kept.
func TestKeyIsNew(t *testing.T) {
	answers := drive.Answers(richAnswers())
	plain, _ := started(t, answers, richMachine, richInput, 20)
	var kept, was []api.Key
	spoiling := false
	e, _ := started(t, &clerk{does: func(k api.Key) api.Outcome {
		if spoiling = !spoiling; spoiling {
			spoil(k)
		}
		kept, was = append(kept, k), append(was, whole(k))
		return answers.Do(k)
	}}, richMachine, richInput, 20)
	for now := range int64(60) {
		want, _ := plain.Step(3, now)
		got, _ := e.Step(3, now)
		if !same(got, want) || !same(e.Config(), plain.Config()) {
			t.Fatalf("%s, not %s; %s", shownEvent(got), shownEvent(want), shown(e.Config()))
		}
	}
	for i, k := range kept {
		if !reflect.DeepEqual(whole(k), was[i]) {
			t.Fatalf("a key that was handed out is another: %+v", k)
		}
	}
	if len(kept) < 7 {
		t.Fatalf("only %d keys", len(kept))
	}
}

// TestAnswersMemory holds R3 of Answers: its list is neither changed nor kept, spare room too; and what it answers is new.
func TestAnswersMemory(t *testing.T) {
	l := roomy(richAnswers(), answer("u", 0, fine("1")))
	for i := range l {
		l[i].Outcome.Value = roomyValue(l[i].Outcome.Value)
	}
	was := whole(l)
	tasks := drive.Answers(l)
	k := api.Key{Place: roomy([]int{1, 2}, 3), Visit: 1, Attempt: 2, Resource: "r", Input: roomyValue(val(richInput))}
	wasKey := whole(k)
	for range 3 {
		got := tasks.Do(k)
		wantOutcome(t, "Do", got, fine(richInput))
		spoil(got)
	}
	if !reflect.DeepEqual(whole(l), was) || !reflect.DeepEqual(whole(k), wasKey) {
		t.Fatal("what was handed in was changed")
	}
	spoil(l)
	first := tasks.Do(k)
	wantOutcome(t, "the list was changed", first, fine(richInput))
	wasFirst := whole(first)
	spoil(tasks.Do(k))
	if !reflect.DeepEqual(whole(first), wasFirst) {
		t.Fatal("two answers share memory")
	}
	wantOutcome(t, "another", tasks.Do(key("u", 1)), wrong(taskFailed, ""))
}

// TestOpenMemory holds R3 of Open: what stood on the disk is the disk's; two engines of two copies know nothing of one another.
func TestOpenMemory(t *testing.T) {
	e, d := started(t, drive.Answers(richAnswers()), richMachine, richInput, 20)
	richSteps(t, e, func() {
		one, two := opened(t, copied(d), nil), opened(t, copied(d), nil)
		spoil(one.History())
		spoil(one.Config())
		if !sameEvents(two.History(), e.History()) || !same(two.Config(), e.Config()) || !sameEvents(one.History(), e.History()) || !same(one.Config(), e.Config()) {
			t.Fatalf("found: %s", shown(one.Config()))
		}
	})
}
