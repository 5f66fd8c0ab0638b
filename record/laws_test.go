package record_test

import (
	"bytes"
	"math"
	"math/rand"
	"strings"
	"testing"

	"voyage/api"
	"voyage/record"
)

func pick[T any](r *rand.Rand, list ...T) T { return list[r.Intn(len(list))] }

func randomText(r *rand.Rand) string {
	n := pick(r, 0, 1, 2, 5, 127, 128, 300)
	b := make([]byte, r.Intn(n+1))
	for i := range b {
		b[i] = pick(r, 'a', 'b', '"', '\\', '\n', 0, byte(r.Intn(128)), byte(r.Intn(256)))
	}
	return string(b)
}

func randomLetters(r *rand.Rand) string {
	if r.Intn(8) == 0 {
		return randomText(r)
	}
	return strings.ToValidUTF8(randomText(r), pick(r, "", "é", "\uFFFD", "\U0001F600"))
}

func randomPlace(r *rand.Rand) []int {
	place := make([]int, pick(r, 0, 0, 1, 2, 3, 6, 9, 127, 128, 191, 192, 193))
	for i := range place {
		place[i] = pick(r, 0, 1, 2, 127, 128, 300, r.Intn(1<<14), r.Intn(math.MaxInt32), math.MaxInt32)
	}
	if len(place) > 0 && r.Intn(10) == 0 {
		place[r.Intn(len(place))] = pick(r, -1, math.MaxInt32+1, math.MinInt, math.MaxInt)
	}
	return place
}

// randomValue is a value in any form; what its Kind doesn't name is there, too, now and then.
func randomValue(r *rand.Rand, deep int) api.Value {
	v := api.Value{Kind: pick(r, -1, 0, 1, 2, 3, 4, 5, 6)}
	if v.Kind == api.Truth || r.Intn(4) == 0 {
		v.Truth = r.Intn(2) == 0
	}
	if v.Kind == api.Number || r.Intn(4) == 0 {
		v.Num = api.Dec{Neg: r.Intn(2) == 0, Digits: pick(r, "", "0", "1", "15", "00120", "x7", randomText(r)), Exp: pick(r, 0, 1, -2, 9999, -9999, 10000, math.MinInt)}
	}
	if v.Kind == api.Text || r.Intn(4) == 0 {
		v.Text = randomText(r)
	}
	for range r.Intn(deep + 1) {
		v.List = append(v.List, randomValue(r, deep-1))
		v.Fields = append(v.Fields, api.Field{Name: pick(r, "a", "b", "", "\xff", "\uFFFD", randomText(r)), Value: randomValue(r, deep-1)})
	}
	return v
}

func randomOutcome(r *rand.Rand) api.Outcome {
	if r.Intn(2) == 0 {
		o := fine(randomValue(r, r.Intn(4)))
		if r.Intn(10) == 0 {
			o.Error, o.Cause = pick(r, "", "e"), pick(r, "", "c")
		}
		return o
	}
	o := failed(randomLetters(r), randomLetters(r))
	if r.Intn(4) == 0 {
		o.Value = randomValue(r, r.Intn(2))
	}
	return o
}

// randomEvent is an event with something in all its fields, its parts or not.
func randomEvent(r *rand.Rand) api.Event {
	return api.Event{
		Kind:    pick(r, 1, 2, 3, 4, 4, 4, 5, 6, 7, 1+r.Intn(7), r.Intn(12)-2),
		Place:   randomPlace(r),
		Time:    pick(r, 0, 1, 12, r.Int63n(api.MaxTime), r.Int63n(300), api.MaxTime, api.MaxTime+r.Int63n(2), r.Int63(), -1),
		Outcome: randomOutcome(r),
		Machine: randomText(r),
		Input:   randomText(r),
		Fuel:    pick(r, 1, 2, 200, api.MaxFuel, 1+r.Intn(api.MaxFuel), r.Intn(2), api.MaxFuel+r.Intn(2)),
	}
}

// TestEventsAgainstTheModel holds P13.1 to P13.3: any events, there and back; and most of them may be told.
func TestEventsAgainstTheModel(t *testing.T) {
	r := rand.New(rand.NewSource(1))
	told := map[int]int{}
	for range 30000 {
		e := randomEvent(r)
		checkModel(t, e)
		if modelTellable(e) {
			told[e.Kind]++
		}
	}
	for kind := 1; kind <= 7; kind++ {
		if told[kind] < 1000 {
			t.Errorf("of kind %d only %d may be told", kind, told[kind])
		}
	}
}

// records are those of random events.
func records(r *rand.Rand, n int) [][]byte {
	var list [][]byte
	for len(list) < n {
		if e := randomEvent(r); modelTellable(e) {
			list = append(list, []byte(modelBytes(e)))
		}
	}
	return list
}

func spoilt(r *rand.Rand, b []byte) []byte {
	i := r.Intn(len(b) + 1)
	other := bytes.Clone(b)
	switch r.Intn(5) {
	case 0:
		return append(other[:i], b[min(len(b), i+1+r.Intn(3)):]...)
	case 1:
		return append(append(other[:i], pick(r, 0, 1, 0x7f, 0x80, 0xff, byte(r.Intn(256)))), b[i:]...)
	case 2:
		if i < len(b) {
			other[i] ^= 1 << r.Intn(8)
		}
	case 3:
		if i < len(b) {
			other[i] = byte(r.Intn(256))
		}
	case 4:
		if r.Intn(2) == 0 && len(b) > 8 { // where the counts are
			other[r.Intn(8)] += pick[byte](r, 1, 0xff)
		}
	}
	return other
}

// TestSpoiltAgainstTheModel holds P13.2: records of which some bytes are others; and what is read of them Encode writes again.
func TestSpoiltAgainstTheModel(t *testing.T) {
	r := rand.New(rand.NewSource(2))
	read := 0
	for _, b := range records(r, 4000) {
		for range 10 {
			other := spoilt(r, b)
			checkBytes(t, other)
			if e, err := record.Decode(other); err == nil {
				read++
				if again, err := record.Encode(e); err != nil || !bytes.Equal(again, other) {
					t.Fatalf("%s: written again %s, %v", short(other), short(again), err)
				}
			}
		}
	}
	if read < 2000 {
		t.Errorf("only %d of them are records", read)
	}
}

// TestEveryShortRow holds P13.2: every row of up to six bytes of a few, and every row of up to two of all.
func TestEveryShortRow(t *testing.T) {
	few := []byte{0, 1, 2, 4, '1', 0x80, 0x81, 0xff}
	var grow func(b []byte, left int)
	grow = func(b []byte, left int) {
		checkBytes(t, b)
		if left == 0 {
			return
		}
		for _, c := range few {
			grow(append(bytes.Clone(b), c), left-1)
		}
	}
	for kind := range byte(9) {
		grow([]byte{kind}, 5)
	}
	for i := range 1 << 16 {
		checkBytes(t, []byte{byte(i >> 8)})
		checkBytes(t, []byte{byte(i >> 8), byte(i)})
		checkBytes(t, []byte{1 + byte(i>>8)%7, 1, byte(i)})
	}
}

// TestRandomRows holds that Decode answers whatever it is given.
func TestRandomRows(t *testing.T) {
	r := rand.New(rand.NewSource(3))
	for range 50000 {
		b := make([]byte, r.Intn(40))
		r.Read(b)
		if len(b) > 0 {
			b[0] = byte(r.Intn(9))
		}
		checkBytes(t, b)
	}
}

// TestBeginnings holds P13.3: no beginning of a record is one, but it itself.
func TestBeginnings(t *testing.T) {
	r := rand.New(rand.NewSource(4))
	list := records(r, 500)
	for b := range ordinary(t) {
		list = append(list, hexed(t, b))
	}
	for _, b := range list {
		for n := range len(b) {
			checkNone(t, b[:n])
			checkNone(t, bytes.Clone(b[:n]))
		}
		if _, err := record.Decode(b); err != nil {
			t.Fatalf("%s: %v", short(b), err)
		}
	}
}

// TestMoreBehind holds P13.3: a record with a byte behind it, or with another record, is none.
func TestMoreBehind(t *testing.T) {
	r := rand.New(rand.NewSource(5))
	list := records(r, 300)
	for b := range ordinary(t) {
		list = append(list, hexed(t, b))
	}
	for i, b := range list {
		for c := range 256 {
			checkNone(t, append(bytes.Clone(b), byte(c)))
		}
		checkNone(t, append(bytes.Clone(b), list[r.Intn(i+1)]...))
		checkNone(t, append(bytes.Clone(b), make([]byte, 1+r.Intn(100))...))
	}
}

// near is an event with a part, or a field that is none, told otherwise or made another.
func near(r *rand.Rand, e api.Event) api.Event {
	other := randomEvent(r)
	switch r.Intn(8) {
	case 0:
		e.Kind = other.Kind
	case 1:
		e.Place = other.Place
	case 2:
		e.Time = other.Time
	case 3:
		e.Machine = other.Machine
	case 4:
		e.Input = other.Input
	case 5:
		e.Fuel = other.Fuel
	case 6:
		e.Outcome = other.Outcome
	case 7: // what stands at the end of one text stands at the beginning of the next
		e.Machine, e.Input = e.Input, e.Machine
		e.Outcome.Error, e.Outcome.Cause = e.Outcome.Cause, e.Outcome.Error
	}
	return e
}

// TestSameBytes holds P13.3: two events have the same bytes just if they have one one form.
func TestSameBytes(t *testing.T) {
	r := rand.New(rand.NewSource(6))
	same := 0
	for range 20000 {
		a := randomEvent(r)
		b := near(r, a)
		one, err := record.Encode(a)
		two, err2 := record.Encode(b)
		if err != nil || err2 != nil {
			continue
		}
		if bytes.Equal(one, two) != alike(modelForm(a), modelForm(b)) {
			t.Fatalf("%s and %s: %s and %s", shown(a), shown(b), short(one), short(two))
		}
		if bytes.Equal(one, two) {
			same++
		}
	}
	if same < 1000 {
		t.Errorf("only %d pairs have one one form", same)
	}
}

// TestBytesCutOtherwise holds P13.3: the same letters in other parts are other bytes.
func TestBytesCutOtherwise(t *testing.T) {
	seen := map[string]int{}
	list := []api.Event{
		begun("ab", "c", 1), begun("a", "bc", 1), begun("abc", "", 1), begun("", "abc", 1), begun("abc", "", 2),
		moved(), moved(0), moved(0, 0), moved(1, 2), moved(12), moved(2, 1), moved(128, 1), moved(1, 128),
		toldOf(failed("ab", "c")), toldOf(failed("a", "bc")), toldOf(failed("", "abc")), toldOf(failed("abc", "")), toldOf(failed("abc", ""), 0), toldOf(failed("null", "")), toldOf(fine(api.Value{})),
		set(1), set(1, 1), set(1, 1, 1), set(0, 1), set(0), {Kind: api.EvFired}, {Kind: api.EvFired, Time: 1},
		{Kind: api.EvAsked}, {Kind: api.EvJoined}, {Kind: api.EvAsked, Place: []int{1, 2}},
	}
	for i, e := range list {
		b, err := record.Encode(e)
		if before, twice := seen[string(b)]; err != nil || twice {
			t.Errorf("%s: %v, the bytes of %s", shown(e), err, shown(list[before]))
		}
		seen[string(b)] = i
	}
}

// TestLongest holds P13.3: the longest record of each kind has at most MaxRecord bytes, and is read again.
func TestLongest(t *testing.T) {
	long := strings.Repeat("x", api.MaxText)
	place := make([]int, 192)
	for i := range place {
		place[i] = math.MaxInt32
	}
	for _, x := range []struct {
		e    api.Event
		want int
	}{
		{begun(long, long, api.MaxFuel), 1 + 2*(3+api.MaxText) + 3},
		{api.Event{Kind: api.EvMoved, Place: place}, 1 + 2 + 192*5},
		{api.Event{Kind: api.EvAsked, Place: place}, 1 + 2 + 192*5},
		{api.Event{Kind: api.EvTold, Place: place, Outcome: fine(text(long[2:]))}, 1 + 2 + 192*5 + 1 + 3 + api.MaxText},
		{api.Event{Kind: api.EvTold, Place: place, Outcome: failed(long[20000:], long[:20000])}, 1 + 2 + 192*5 + 1 + 3 + 3 + api.MaxText},
		{api.Event{Kind: api.EvSet, Place: place, Time: api.MaxTime}, 1 + 2 + 192*5 + 8},
		{api.Event{Kind: api.EvFired, Place: place, Time: api.MaxTime}, 1 + 2 + 192*5 + 8},
		{api.Event{Kind: api.EvJoined, Place: place}, 1 + 2 + 192*5},
	} {
		b, err := record.Encode(x.e)
		if err != nil || len(b) != x.want || len(b) > api.MaxRecord {
			t.Errorf("%s: %d bytes, %v; not %d", shown(x.e), len(b), err, x.want)
		}
		checkModel(t, x.e)
	}
}
