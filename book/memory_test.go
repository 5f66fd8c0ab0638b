package book_test

import (
	"math/rand"
	"slices"
	"testing"

	"voyage/api"
	"voyage/book"
	"voyage/disk"
)

// roomy is a list in memory with spare room, which spare stands in.
func roomy[T any](list []T, spare ...T) []T {
	with := slices.Concat(list, spare)
	return with[:len(list)]
}

// all is a list with all its spare room.
func all[T any](list []T) []T { return list[:cap(list)] }

func fill[T any](list []T, with T) {
	for i := range all(list) {
		all(list)[i] = with
	}
}

// roomyValue is a value all of whose lists have spare room.
func roomyValue(v api.Value) api.Value {
	list, fields := slices.Clone(v.List), slices.Clone(v.Fields)
	for i := range list {
		list[i] = roomyValue(list[i])
	}
	for i := range fields {
		fields[i].Value = roomyValue(fields[i].Value)
	}
	v.List, v.Fields = roomy(list, number("8"), number("9")), roomy(fields, api.Field{Name: "spare"}, api.Field{Name: "a", Value: number("9")})
	return v
}

func roomyEvent(e api.Event) api.Event {
	e.Place, e.Outcome.Value = roomy(e.Place, -1, -1, -1), roomyValue(e.Outcome.Value)
	return e
}

// spoilValue writes over all the lists of a value, their spare room too.
func spoilValue(v api.Value) {
	for _, element := range all(v.List) {
		spoilValue(element)
	}
	for _, field := range all(v.Fields) {
		spoilValue(field.Value)
	}
	fill(v.List, number("7"))
	fill(v.Fields, api.Field{Name: "spoilt", Value: number("7")})
}

func spoil(e api.Event) {
	fill(e.Place, 77)
	_ = append(e.Place, 78, 79)
	spoilValue(e.Outcome.Value)
}

// whole is an event whose lists are as long as their room, in memory of its own.
func whole(e api.Event) api.Event {
	e.Place, e.Outcome.Value = slices.Clone(all(e.Place)), wholeValue(e.Outcome.Value)
	return e
}

func wholeValue(v api.Value) api.Value {
	v.List, v.Fields = slices.Clone(all(v.List)), slices.Clone(all(v.Fields))
	for i := range v.List {
		v.List[i] = wholeValue(v.List[i])
	}
	for i := range v.Fields {
		v.Fields[i].Value = wholeValue(v.Fields[i].Value)
	}
	return v
}

// rich are events with lists in lists.
func rich() []api.Event {
	object := api.Value{Kind: api.Object, Fields: []api.Field{{Name: "a", Value: list(number("1"), number("2"))}, {Name: "b", Value: list()}, {Name: "c", Value: list(list(number("3")))}}}
	told := func(v api.Value, place ...int) api.Event {
		return api.Event{Kind: api.EvTold, Place: place, Outcome: api.Outcome{Fine: true, Value: v}}
	}
	return []api.Event{moved(1, 2, 3), told(list(number("1"), object), 1), told(object, 4, 5, 6), told(list()), moved(), {Kind: api.EvSet, Place: []int{9}, Time: 5}}
}

// TestHandedInStays holds R3: an event that is handed in stays as it is, its spare room too, whatever is done then; also one that is refused, and one in whose Add the power goes.
func TestHandedInStays(t *testing.T) {
	r := rand.New(rand.NewSource(11))
	for range 300 {
		d, b := holding(t)
		var handed, was []api.Event
		for i := range 12 {
			e := roomyEvent(randomEvent(r))
			handed, was = append(handed, e), append(was, whole(e))
			b.Add(e)
			switch i {
			case 4:
				b.Sync()
			case 7:
				b.Cut(b.Len() / 2)
			case 10:
				d.Arm(1)
			}
		}
		d.Crash(1000, 5, 0xFFFFFFFF)
		b, _, _ = book.Open(d)
		b.Add(moved(6, 6, 6))
		for i := range handed {
			if !alike(whole(handed[i]), was[i]) {
				t.Fatalf("what was handed in is another: %s, not %s", shown(whole(handed[i])), shown(was[i]))
			}
		}
	}
}

// TestHandedInIsNotKept holds R3: an event may be changed behind its Add, its spare room too.
func TestHandedInIsNotKept(t *testing.T) {
	for _, armed := range []int{0, 1} {
		d, b := holding(t)
		for i, e := range rich() {
			handed := roomyEvent(e)
			want := error(nil)
			if armed == 1 && i == len(rich())-1 {
				d.Arm(1)
				want = api.ErrDown
			}
			check(t, "Add", b.Add(handed), want)
			spoil(handed)
			lookDisk(t, "what was handed in was changed", d, fileOf(rich()[:i+1]...))
		}
		opened(t, "what was handed in was changed", d, rich()...)
	}
}

// TestAnsweredIsNew holds R3: the events that Open answers may be changed, spare room too; neither the book nor the disk nor another answer is.
func TestAnsweredIsNew(t *testing.T) {
	d, _ := holding(t, rich()...)
	_, one, _ := book.Open(d)
	b, two, _ := book.Open(d)
	for _, e := range one {
		spoil(e)
	}
	fill(one, moved(7, 7))
	_ = append(one, moved(8), moved(9))
	if !alikeLists(two, rich()) {
		t.Fatalf("two answers share memory: %s", shown(two...))
	}
	for _, e := range two {
		spoil(e)
	}
	fill(two, moved(7, 7))
	_ = append(two, moved(8), moved(9))
	look(t, "answers were changed", d, b, rich()...)
	check(t, "Add", b.Add(moved(5)), nil)
	check(t, "Cut", b.Cut(len(rich())-1), nil)
	look(t, "answers were changed", d, b, rich()[:len(rich())-1]...)
	opened(t, "answers were changed", d, rich()[:len(rich())-1]...)
}

// TestAnsweredStays holds R3: what Open answered is as it was, its spare room too, whatever is done to the book and the disk later.
func TestAnsweredStays(t *testing.T) {
	d, _ := holding(t, rich()...)
	b, events, _ := book.Open(d)
	was := slices.Clone(all(events))
	for i := range was {
		was[i] = whole(was[i])
	}
	for i := range 20 {
		check(t, "Add", b.Add(moved(i, i)), nil)
	}
	check(t, "Cut", b.Cut(2), nil)
	addAll(t, b, moved(3), moved(4), moved(5))
	check(t, "Sync", b.Sync(), nil)
	d.Crash(9, 0, 0xFFFFFFFF)
	check(t, "disk.Cut", d.Cut(0), nil)
	b, _, _ = book.Open(d)
	addAll(t, b, moved(6), moved(7))
	for i, e := range all(events) {
		if !alike(whole(e), was[i]) {
			t.Fatalf("what was answered is another: %s, not %s", shown(whole(e)), shown(was[i]))
		}
	}
}

// TestListsApart holds R3: of the lists of one answer each can be spoilt, spare room too, and the others stay.
func TestListsApart(t *testing.T) {
	d, _ := holding(t, rich()...)
	for i := range rich() {
		_, events, _ := book.Open(d)
		spoil(events[i])
		for other := range events {
			if other != i && !alike(events[other], rich()[other]) {
				t.Errorf("event %d shares memory with event %d: %s", other, i, shown(events[other]))
			}
		}
		_, events, _ = book.Open(d)
		fill(events[i].Place, 77)
		_ = append(events[i].Place, 78)
		if !alikeValues(events[i].Outcome.Value, rich()[i].Outcome.Value) {
			t.Errorf("two lists of event %d share memory: %s", i, shown(events[i]))
		}
	}
}

// TestAnsweredHandedIn holds that what a book answered can be handed in as any event, to itself or another.
func TestAnsweredHandedIn(t *testing.T) {
	d, _ := holding(t, rich()...)
	b, events, _ := book.Open(d)
	other := disk.New()
	second := opened(t, "new", other)
	for _, e := range events {
		check(t, "Add", b.Add(e), nil)
		check(t, "Add", second.Add(e), nil)
		spoil(e)
	}
	look(t, "its own", d, b, slices.Concat(rich(), rich())...)
	look(t, "another's", other, second, rich()...)
}
