package world_test

import (
	"cmp"
	"reflect"
	"slices"
	"testing"

	"voyage/api"
	"voyage/world"
)

// roomy is a list in memory with spare room, which spare stands in.
func roomy[T any](list []T, spare ...T) []T {
	with := slices.Concat(list, spare)
	return with[:len(list)]
}

// roomyValue is a value all of whose lists have spare room.
func roomyValue(v api.Value) api.Value {
	list, fields := slices.Clone(v.List), slices.Clone(v.Fields)
	for i := range list {
		list[i] = roomyValue(list[i])
	}
	for i := range fields {
		fields[i].Value = roomyValue(fields[i].Value)
	}
	v.List, v.Fields = roomy(list, val("8"), val("9")), roomy(fields, api.Field{Name: "spare"}, api.Field{Name: "a", Value: val("9")})
	return v
}

// whole is a thing all of whose lists are as long as their room, in memory of its own.
func whole[T any](thing T) T {
	return wholeOfThing(reflect.ValueOf(thing)).Interface().(T)
}

func wholeOfThing(v reflect.Value) reflect.Value {
	switch v.Kind() {
	case reflect.Slice:
		own := reflect.MakeSlice(v.Type(), v.Cap(), v.Cap())
		for i := range v.Cap() {
			own.Index(i).Set(wholeOfThing(v.Slice(0, v.Cap()).Index(i)))
		}
		return own
	case reflect.Struct:
		own := reflect.New(v.Type()).Elem()
		for i := range v.NumField() {
			own.Field(i).Set(wholeOfThing(v.Field(i)))
		}
		return own
	}
	return v
}

// lists gives all the lists of a thing, those in lists too, the innermost ones first.
func lists(v reflect.Value) []reflect.Value {
	var found []reflect.Value
	switch v.Kind() {
	case reflect.Slice:
		for i := range v.Len() {
			found = append(found, lists(v.Index(i))...)
		}
		own := reflect.New(v.Type()).Elem() // a list that is told elsewhere, too, stays when that place is written over
		own.Set(v)
		found = append(found, own)
	case reflect.Struct:
		for i := range v.NumField() {
			found = append(found, lists(v.Field(i))...)
		}
	}
	return found
}

// spoilList writes over a list, its spare room too; what stands in it stays where it is.
func spoilList(l reflect.Value) {
	whole := l.Slice(0, l.Cap())
	for i := range whole.Len() {
		switch x := whole.Index(i).Addr().Interface().(type) {
		case *byte:
			*x ^= 0x5A
		case *int:
			*x = -77
		case *api.Value:
			*x = val(`"spoilt"`)
		case *api.Field:
			*x = api.Field{Name: "spoilt"}
		case *api.Frame:
			*x = api.Frame{At: "spoilt"}
		case *api.Event:
			*x = api.Event{Kind: 9}
		case *api.Key:
			*x = api.Key{Resource: "spoilt"}
		case *api.Act:
			*x = api.Act{Kind: 1, Machine: "spoilt"}
		case *api.Reply:
			*x = api.Reply{Err: api.ErrLong}
		case *api.Answer:
			*x = answer("r", 0, wrong("spoilt", ""))
		default:
			panic("a list of something else")
		}
	}
}

// spoil writes over all the lists of a thing.
func spoil(thing any) {
	for _, l := range lists(reflect.ValueOf(thing)) {
		spoilList(l)
	}
}

const richInput = `{"l":[[1,2],{"a":[3]},[]],"o":{"p":{"q":[4,5]}}}`

// richMachine keeps lists in all that runs: items, results, retriers that are charged.
const richMachine = `{"StartAt":"m","States":{
	"m":{"Type":"Map","ItemsPath":"$.l","ResultPath":"$.m","Next":"t","Iterator":{"StartAt":"i","States":{
		"i":{"Type":"Task","Resource":"r","Retry":[{"ErrorEquals":["e"]},{"ErrorEquals":["f"]}],"ResultPath":null,"End":true}}}},
	"t":{"Type":"Task","Resource":"s","Next":"z"},
	"z":{"Type":"Succeed"}}}`

func richAnswers() []api.Answer {
	return []api.Answer{answer("r", 1, wrong("f", "")), answer("r", 0, fine(richInput)), answer("s", 0, fine(richInput))}
}

// richScript takes a run of richMachine to its end, with the power going here and there.
func richScript() []api.Act {
	script := []api.Act{steps(0), starts(richMachine, richInput, 20), starts("{", "1", 1)}
	for i := range int64(60) {
		script = append(script, steps(i*7), ticks(1), ends())
		switch {
		case i%11 == 5:
			script = append(script, arms(1+i%3), steps(i), restarts(int(i*3), -1, 0))
		case i%13 == 7:
			script = append(script, restarts(1000, int(i), 1<<31), goes(1))
		}
	}
	return append(script, goes(99), ends())
}

// TestAnsweredIsNew holds R3: whatever a world answers may be written over, its spare room too; the world goes on as one whose answers were left alone.
func TestAnsweredIsNew(t *testing.T) {
	plain, w := world.New(richAnswers()), world.New(richAnswers())
	var last api.Reply
	for _, a := range richScript() {
		want, got := plain.Do(a), w.Do(a)
		if !same(got, want) {
			t.Fatalf("%+v: %s, not %s", a, shownReply(got[0]), shownReply(want[0]))
		}
		last = want[0]
		spoil(got)
		spoil(w.Config())
		spoil(w.History())
		spoil(w.Asked())
		file, _ := w.Bytes()
		spoil(file)
		wantAlike(t, w, plain)
	}
	if !last.Ended || !last.Report.Fine || len(plain.Asked()) < 9 {
		t.Fatalf("no fine end: %s", shownReply(last))
	}
}

// wantAlike wants that two worlds are alike in all that can be looked at.
func wantAlike(t *testing.T, w, other *world.World) {
	t.Helper()
	file, synced := other.Bytes()
	wantBytes(t, w, synced, file)
	wantNow(t, w, other.Now())
	wantHistory(t, w, other.History()...)
	wantAsked(t, w, other.Asked()...)
	c := other.Config()
	wantFrames(t, w, c.Fuel, c.Frames...)
}

// TestAnsweredStays holds R3: what was answered is as it was, its spare room too, whatever is done later.
func TestAnsweredStays(t *testing.T) {
	w := world.New(richAnswers())
	var answered, was []any
	for i, a := range richScript() {
		file, _ := w.Bytes()
		answered = append(answered, w.Do(a, steps(int64(i))), w.Config(), w.History(), w.Asked(), file)
		for _, thing := range answered[len(was):] {
			was = append(was, wholeOfThing(reflect.ValueOf(thing)).Interface())
		}
	}
	for i, thing := range answered {
		if got := wholeOfThing(reflect.ValueOf(thing)).Interface(); !reflect.DeepEqual(got, was[i]) {
			t.Fatalf("what was answered is another: %+v\nnot %+v", got, was[i])
		}
	}
}

// TestListsApart holds R3: no two lists of one answer share memory, spare room too.
func TestListsApart(t *testing.T) {
	w := world.New(richAnswers())
	apart(t, world.New(richAnswers()).Do(richScript()...))
	for _, a := range richScript() {
		w.Do(a)
		apart(t, w.Config())
		apart(t, w.History())
		apart(t, w.Asked())
	}
}

// apart wants that no two lists of an answer share memory.
func apart(t *testing.T, answer any) {
	t.Helper()
	found := slices.DeleteFunc(lists(reflect.ValueOf(answer)), func(l reflect.Value) bool { return l.Cap() == 0 })
	slices.SortFunc(found, func(l, m reflect.Value) int { return cmp.Compare(l.Pointer(), m.Pointer()) })
	for i := range len(found) - 1 {
		l, next := found[i], found[i+1]
		if l.Pointer()+uintptr(l.Cap())*l.Type().Elem().Size() > next.Pointer() {
			t.Fatalf("two lists of one answer share memory, %+v and %+v: %+v", l.Interface(), next.Interface(), answer)
		}
	}
}

// TestAnswersAreKept holds R3 and P18.1 of what New is handed: it is neither changed nor kept, its spare room too, so its owner may change it.
func TestAnswersAreKept(t *testing.T) {
	l := roomy(richAnswers(), answer("u", 0, fine("1")))
	for i := range l {
		l[i].Outcome.Value = roomyValue(l[i].Outcome.Value)
	}
	was := whole(l)
	plain, first, second := world.New(richAnswers()), world.New(l), world.New(l)
	want := plain.Do(richScript()...)
	if got := first.Do(richScript()...); !same(got, want) {
		t.Fatal("unlike worlds")
	}
	if !reflect.DeepEqual(whole(l), was) {
		t.Fatal("what New was handed was changed")
	}
	for _, a := range richScript()[:20] {
		second.Do(a)
	}
	spoil(l)
	for i, a := range richScript()[20:] {
		if got := second.Do(a)[0]; !same(got, want[20+i]) {
			t.Fatalf("the answers were kept: %s, not %s", shownReply(got), shownReply(want[20+i]))
		}
	}
	wantAlike(t, second, plain)
	third := world.New(l)
	play(t, third, line{starts(retried, "1", 9), nothing()}, line{goes(99), tells(told(wrong("spoilt", "")))})
}

// TestActsAreKept holds R3 of the acts: they are neither changed nor kept, their spare room too.
func TestActsAreKept(t *testing.T) {
	plain, w := world.New(richAnswers()), world.New(richAnswers())
	acts := roomy(richScript(), starts("spare", "1", 1), steps(3))
	was := whole(acts)
	want, got := plain.Do(richScript()...), w.Do(acts...)
	if !reflect.DeepEqual(whole(acts), was) {
		t.Fatal("the acts were changed")
	}
	spoil(acts)
	if !same(got, want) {
		t.Fatal("unlike replies")
	}
	wantAlike(t, w, plain)
	play(t, w, line{restarts(0, -1, 0), nothing()})
	plain.Do(restarts(0, -1, 0))
	wantAlike(t, w, plain)
}

// TestRepliesApart holds R3 of the replies of one Do: those of the next one stand elsewhere.
func TestRepliesApart(t *testing.T) {
	w := world.New(richAnswers())
	first := w.Do(richScript()[:7]...)
	was := whole(first)
	w.Do(richScript()[7:]...)
	if !reflect.DeepEqual(whole(first), was) {
		t.Fatal("the replies were changed")
	}
}
