package record_test

import (
	"bytes"
	"math/rand"
	"slices"
	"sync"
	"testing"

	"voyage/api"
	"voyage/record"
)

// roomy is a list in memory with spare room, which spare stands in.
func roomy[T any](list []T, spare ...T) []T {
	with := slices.Concat(list, spare)
	return with[:len(list)]
}

// all is a list with all its spare room.
func all[T any](list []T) []T { return list[:cap(list)] }

func fill[T any](list []T, with T) {
	for i := range all(list) {
		all(list)[i] = with
	}
}

// roomyValue is a value all of whose lists have spare room.
func roomyValue(v api.Value) api.Value {
	list, fields := slices.Clone(v.List), slices.Clone(v.Fields)
	for i := range list {
		list[i] = roomyValue(list[i])
	}
	for i := range fields {
		fields[i].Value = roomyValue(fields[i].Value)
	}
	v.List, v.Fields = roomy(list, text("spare"), text("room")), roomy(fields, api.Field{Name: "spare"}, api.Field{Name: "a", Value: text("room")})
	return v
}

// spoil writes over all the lists of a value, their spare room too.
func spoil(v api.Value) {
	for _, element := range all(v.List) {
		spoil(element)
	}
	for _, field := range all(v.Fields) {
		spoil(field.Value)
	}
	fill(v.List, text("spoilt"))
	fill(v.Fields, api.Field{Name: "spoilt", Value: text("spoilt")})
}

// allOf is a value whose lists are as long as their room.
func allOf(v api.Value) api.Value {
	v.List, v.Fields = slices.Clone(all(v.List)), slices.Clone(all(v.Fields))
	for i := range v.List {
		v.List[i] = allOf(v.List[i])
	}
	for i := range v.Fields {
		v.Fields[i].Value = allOf(v.Fields[i].Value)
	}
	return v
}

// TestEventsHandedIn holds R3: Encode leaves what is handed in as it is, spare room too, and what stands in that room doesn't matter; nor does what is done with it later.
func TestEventsHandedIn(t *testing.T) {
	r := rand.New(rand.NewSource(11))
	for range 4000 {
		e := randomEvent(r)
		may, want := modelTellable(e), ""
		if may {
			want = modelBytes(e)
		}
		e.Place = roomy(e.Place, -1, -1, -1)
		e.Outcome.Value = roomyValue(e.Outcome.Value)
		was := e
		was.Place, was.Outcome.Value = slices.Clone(all(e.Place)), allOf(e.Outcome.Value)
		b, err := record.Encode(e)
		now := e
		now.Place, now.Outcome.Value = slices.Clone(all(e.Place)), allOf(e.Outcome.Value)
		if !alike(now, was) {
			t.Fatalf("what was handed in is another: %s, not %s", shown(now), shown(was))
		}
		fill(e.Place, 77)
		spoil(e.Outcome.Value)
		if (err == nil) != may || string(b) != want {
			t.Fatalf("%s: %s, %v; not %s", shown(was), short(b), err, short(want))
		}
	}
}

// TestBytesHandedIn holds R3: Decode leaves bytes that are handed in as they are, spare room too, and keeps none of them.
func TestBytesHandedIn(t *testing.T) {
	r := rand.New(rand.NewSource(12))
	for _, b := range records(r, 3000) {
		in := roomy(b, 1, 2, 0x80, 0xff)
		was := bytes.Clone(all(in))
		e, err := record.Decode(in)
		if !bytes.Equal(all(in), was) {
			t.Fatalf("what was handed in is another: %s, not %s", short(all(in)), short(was))
		}
		fill(in, 0xEE)
		if err != nil || modelBytes(e) != string(b) {
			t.Fatalf("an event changes with the bytes: %s, %v; not %s", shown(e), err, short(b))
		}
	}
}

// TestSpareRoom holds that what stands behind the bytes, in their spare room, is none of them: the rest of the record neither.
func TestSpareRoom(t *testing.T) {
	r := rand.New(rand.NewSource(13))
	for _, b := range records(r, 300) {
		in := append(make([]byte, 0, len(b)+8), b...)
		for n := range len(b) {
			checkNone(t, in[:n])
			checkNone(t, roomy(b[:n], make([]byte, 300)...))
		}
		if _, err := record.Decode(in); err != nil {
			t.Fatalf("%s: %v", short(b), err)
		}
	}
}

// TestBytesAreNew holds R3: what Encode answers shares no memory with another answer, spare room too.
func TestBytesAreNew(t *testing.T) {
	r := rand.New(rand.NewSource(14))
	for range 3000 {
		e := randomEvent(r)
		if !modelTellable(e) {
			continue
		}
		want := modelBytes(e)
		one, _ := record.Encode(e)
		two, _ := record.Encode(e)
		fill(one, 0xEE)
		_ = append(one, 1, 2, 3)
		if string(two) != want {
			t.Fatalf("two answers share memory: %s", short(two))
		}
		if three, _ := record.Encode(e); string(three) != want || modelBytes(e) != want {
			t.Fatalf("an answer is kept: %s, not %s", short(three), short(want))
		}
	}
}

// TestEventsAreNew holds R3: what Decode answers shares no memory with the bytes nor with another answer; no two of its lists share any.
func TestEventsAreNew(t *testing.T) {
	r := rand.New(rand.NewSource(15))
	for _, b := range records(r, 3000) {
		in := bytes.Clone(b)
		one, _ := record.Decode(in)
		two, _ := record.Decode(in)
		fill(one.Place, -1)
		_ = append(one.Place, -1, -1)
		spoil(one.Outcome.Value)
		if !bytes.Equal(in, b) || modelBytes(two) != string(b) {
			t.Fatalf("answers share memory: %s, %s; not %s", short(in), shown(two), short(b))
		}
		if three, err := record.Decode(in); err != nil || modelBytes(three) != string(b) {
			t.Fatalf("an answer is kept: %s, not %s", shown(three), short(b))
		}
	}
}

// TestListsApart holds R3: of the lists of one answer each can be spoilt, spare room too, and the others stay.
func TestListsApart(t *testing.T) {
	b := []byte("\x04\x02\x01\x02\x01" + modelText(`[[1,2,3],[4,5],{"a":1,"b":[6],"c":[7,8,9]},[]]`))
	for i := range 4 {
		e, err := record.Decode(b)
		if err != nil {
			t.Fatal(err)
		}
		list := e.Outcome.Value.List
		spoil(list[i])
		list[i].List = append(list[i].List, text("more"))
		fill(e.Place, -1)
		want, _ := record.Decode(b)
		for other := range list {
			if other != i && !alikeValues(list[other], want.Outcome.Value.List[other]) {
				t.Errorf("element %d shares memory with element %d", other, i)
			}
		}
	}
}

// TestNothingIsKept holds R4: what was asked before doesn't matter, nor who else asks.
func TestNothingIsKept(t *testing.T) {
	r := rand.New(rand.NewSource(16))
	list := records(r, 200)
	for _, b := range records(r, 200) {
		list = append(list, spoilt(r, b))
	}
	var group sync.WaitGroup
	for worker := range 8 {
		group.Add(1)
		go func() {
			defer group.Done()
			for i := range list {
				b := list[(i*7+worker*50)%len(list)]
				want, ok := modelDecode(b)
				e, err := record.Decode(b)
				if ok != (err == nil) || ok && !alike(e, want) {
					t.Errorf("Decode(%s): %s, %v", short(b), shown(e), err)
				}
				if !ok {
					continue
				}
				if again, err := record.Encode(e); err != nil || !bytes.Equal(again, b) {
					t.Errorf("Encode(%s): %s, %v", shown(e), short(again), err)
				}
			}
		}()
	}
	group.Wait()
}
