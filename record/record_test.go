package record_test

import (
	"bytes"
	"encoding/hex"
	"math"
	"slices"
	"strings"
	"testing"

	"voyage/api"
	"voyage/json"
	"voyage/record"
)

func hexed(t *testing.T, text string) []byte {
	t.Helper()
	b, err := hex.DecodeString(strings.ReplaceAll(text, " ", ""))
	if err != nil {
		t.Fatal(err)
	}
	return b
}

func parsed(t *testing.T, text string) api.Value {
	t.Helper()
	v, err := json.Parse(text)
	if err != nil {
		t.Fatalf("%q: %v", text, err)
	}
	return v
}

// checkTold holds that an event has these bytes, and that they are read as its one form.
func checkTold(t *testing.T, e api.Event, want []byte, form api.Event) {
	t.Helper()
	b, err := record.Encode(e)
	if err != nil || !bytes.Equal(b, want) {
		t.Fatalf("Encode(%s): %s, %v; not %s", shown(e), short(b), err, short(want))
	}
	if got, err := record.Decode(b); err != nil || !alike(got, form) {
		t.Fatalf("Decode(%s): %s, %v; not %s", short(b), shown(got), err, shown(form))
	}
}

func checkRefused(t *testing.T, e api.Event) {
	t.Helper()
	if b, err := record.Encode(e); err != api.ErrEvent || b != nil {
		t.Fatalf("Encode(%s): %s, %v", shown(e), short(b), err)
	}
}

func checkNone(t *testing.T, b []byte) {
	t.Helper()
	if e, err := record.Decode(b); err != api.ErrEvent || !alike(e, api.Event{}) {
		t.Fatalf("Decode(%s): %s, %v", short(b), shown(e), err)
	}
}

// checkModel holds an event against the model: it may be told, or may not, as the model says.
func checkModel(t *testing.T, e api.Event) {
	t.Helper()
	if !modelTellable(e) {
		checkRefused(t, e)
		return
	}
	checkTold(t, e, []byte(modelBytes(e)), modelForm(e))
}

func fine(v api.Value) api.Outcome { return api.Outcome{Fine: true, Value: v} }

func failed(name, cause string) api.Outcome { return api.Outcome{Error: name, Cause: cause} }

func begun(machine, input string, fuel int) api.Event {
	return api.Event{Kind: api.EvBegun, Machine: machine, Input: input, Fuel: fuel}
}

func moved(place ...int) api.Event { return api.Event{Kind: api.EvMoved, Place: place} }

func toldOf(o api.Outcome, place ...int) api.Event {
	return api.Event{Kind: api.EvTold, Place: place, Outcome: o}
}

func set(time int64, place ...int) api.Event {
	return api.Event{Kind: api.EvSet, Place: place, Time: time}
}

func nested(v api.Value, times int) api.Value {
	for range times {
		v = api.Value{Kind: api.List, List: []api.Value{v}}
	}
	return v
}

func text(s string) api.Value { return api.Value{Kind: api.Text, Text: s} }

// ordinary are events of each kind, with their bytes; the chapter's examples are among them.
func ordinary(t *testing.T) map[string]api.Event {
	return map[string]api.Event{
		"02 00":                      {Kind: api.EvMoved},
		"03 03 01 01 00":             {Kind: api.EvAsked, Place: []int{1, 1, 0}},
		"07 01 ac 02":                {Kind: api.EvJoined, Place: []int{300}},
		"01 02 7b 7d 01 31 80 80 04": begun("{}", "1", 65536),
		"04 00 01 03 5b 31 5d":       toldOf(fine(parsed(t, "[1]"))),
		"04 01 02 00 01 65 00":       toldOf(failed("e", ""), 2),
		"05 00 0c":                   set(12),

		"01 00 00 01":                               begun("", "", 1),
		"01 04 ff 00 80 22 01 0a c8 01":             begun("\xff\x00\x80\"", "\n", 200),
		"02 03 01 02 03":                            moved(1, 2, 3),
		"03 00":                                     {Kind: api.EvAsked},
		"04 02 7f 80 01 00 00 00":                   toldOf(failed("", ""), 127, 128),
		"04 00 00 00 01 63":                         toldOf(failed("", "c")),
		"04 00 00 02 c3 a9 03 ef bf bd":             toldOf(failed("é", "\uFFFD")),
		"04 00 01 04 6e 75 6c 6c":                   toldOf(fine(api.Value{})),
		"04 00 01 07 7b 22 61 22 3a 30 7d":          toldOf(fine(parsed(t, `{"a":0}`))),
		"04 01 00 01 05 31 35 65 2d 31":             toldOf(fine(parsed(t, "1.50")), 0),
		"05 03 01 01 00 80 80 80 80 80 80 80 02":    set(1<<50, 1, 1, 0),
		"06 00 00":                                  {Kind: api.EvFired},
		"06 01 ff ff ff ff 07 ff ff ff ff ff ff 03": {Kind: api.EvFired, Place: []int{math.MaxInt32}, Time: 1<<44 - 1},
		"07 00":                   {Kind: api.EvJoined},
		"07 06 01 01 02 03 01 00": {Kind: api.EvJoined, Place: []int{1, 1, 2, 3, 1, 0}},
	}
}

// TestOrdinary holds P13.1 and P13.2: events of each kind, there and back.
func TestOrdinary(t *testing.T) {
	for want, e := range ordinary(t) {
		checkTold(t, e, hexed(t, want), e)
		checkModel(t, e)
	}
}

// TestExamples holds the chapter's examples beside those of TestOrdinary.
func TestExamples(t *testing.T) {
	checkTold(t, api.Event{Kind: api.EvSet, Time: 12, Machine: "x"}, hexed(t, "05 00 0c"), set(12))
	for _, e := range []api.Event{
		{Kind: 0}, {Kind: 8}, moved(-1), set(-1), set(1<<50 + 1), begun("", "", 0),
		toldOf(api.Outcome{Fine: true, Error: "e"}), toldOf(api.Outcome{Value: parsed(t, "1")}), toldOf(failed("\xff", "")),
	} {
		checkRefused(t, e)
	}
	for _, b := range []string{"", "00", "02", "02 00 00", "02 80 00", "04 00 01 04 5b 31 20 5d", "04 00 02", "05 00"} {
		checkNone(t, hexed(t, b))
	}
	checkNone(t, nil)
}

// TestKinds holds that there are seven kinds: as numbers, and as bytes ahead of what is behind one of them.
func TestKinds(t *testing.T) {
	for _, kind := range []int{0, 8, 9, -1, -7, 127, 128, 129, 255, 256, 257, 258, 263, 1<<16 + 2, 1<<32 + 2, -254, -255, math.MaxInt, math.MinInt, math.MinInt + 2} {
		for _, e := range ordinary(t) {
			e.Kind = kind
			checkRefused(t, e)
		}
	}
	for kind := range 256 {
		if 1 <= kind && kind <= 7 {
			continue
		}
		checkNone(t, []byte{byte(kind)})
		for b := range ordinary(t) {
			other := hexed(t, b)
			other[0] = byte(kind)
			checkNone(t, other)
		}
	}
}

// TestOtherFields holds that fields which are none of a kind's parts don't count, however far out of their bounds, and are zero in the one form.
func TestOtherFields(t *testing.T) {
	tooLong := strings.Repeat("x", api.MaxText+1)
	for want, e := range ordinary(t) {
		other := api.Event{Kind: e.Kind, Place: make([]int, 193), Time: -1, Machine: tooLong, Input: "\xff" + tooLong, Fuel: -1,
			Outcome: api.Outcome{Fine: true, Value: nested(api.Value{}, 65), Error: "\xff", Cause: tooLong}}
		other.Place[0] = -1
		for _, part := range modelParts(e.Kind) {
			switch part {
			case 'M':
				other.Machine = e.Machine
			case 'I':
				other.Input = e.Input
			case 'F':
				other.Fuel = e.Fuel
			case 'P':
				other.Place = e.Place
			case 'T':
				other.Time = e.Time
			case 'O':
				other.Outcome = e.Outcome
			}
		}
		checkTold(t, other, hexed(t, want), e)
	}
}

// TestEachPartCounts holds that each part of a kind is asked: one out of its bounds, and the event may not be told.
func TestEachPartCounts(t *testing.T) {
	tooLong := strings.Repeat("x", api.MaxText+1)
	for _, e := range ordinary(t) {
		for _, part := range modelParts(e.Kind) {
			other := e
			switch part {
			case 'M':
				other.Machine = tooLong
			case 'I':
				other.Input = tooLong
			case 'F':
				other.Fuel = 0
			case 'P':
				other.Place = []int{0, -1, 0}
			case 'T':
				other.Time = -1
			case 'O':
				other.Outcome = failed("\xff", "")
			}
			checkRefused(t, other)
		}
	}
}

// TestTexts holds Machine and Input: any bytes, from none to MaxText, each for itself.
func TestTexts(t *testing.T) {
	each := make([]byte, 256)
	for i := range each {
		each[i] = byte(i)
	}
	long := strings.Repeat("voyage\xff", api.MaxText/7+1)
	list := []string{"", "x", "\x00", "\xff", "\xc3", "\xed\xa0\x80", string(each)}
	for _, n := range []int{126, 127, 128, 129, 255, 256, 16383, 16384, 16385, 65536, api.MaxText - 1, api.MaxText, api.MaxText + 1, api.MaxText + 2} {
		list = append(list, long[:n])
	}
	for _, s := range list {
		checkModel(t, begun(s, "", 1))
		checkModel(t, begun("", s, 1))
		checkModel(t, begun(s, s, 1))
		checkModel(t, begun(s, "other", 65536))
	}
	b, err := record.Encode(begun(long[:api.MaxText], "", 7))
	if err != nil || !bytes.HasPrefix(b, hexed(t, "01 80 80 40 76 6f 79")) || !bytes.HasSuffix(b, []byte{0, 7}) || len(b) != 1+3+api.MaxText+2 {
		t.Errorf("MaxText: %s, %v", short(b), err)
	}
	checkRefused(t, begun(long[:api.MaxText+1], "", 7))
	checkRefused(t, begun("", long[:api.MaxText+1], 7))
}

// TestFuel holds Fuel's bounds.
func TestFuel(t *testing.T) {
	for want, fuel := range map[string]int{"01": 1, "02": 2, "7f": 127, "80 01": 128, "ff 7f": 16383, "80 80 01": 16384, "ff ff 03": 65535, "80 80 04": 65536} {
		checkTold(t, begun("", "", fuel), hexed(t, "01 00 00"+want), begun("", "", fuel))
	}
	for _, fuel := range []int{0, -1, -65536, 65537, 131072, 1 << 32, 1<<32 + 1, math.MaxInt, math.MinInt, math.MinInt + 1} {
		checkRefused(t, begun("", "", fuel))
	}
	for _, b := range []string{"00", "80 00", "81 00", "81 80 04", "80 80 05", "80 80 08", "ff ff 7f", "81 80 80 80 10", ""} {
		checkNone(t, hexed(t, "01 00 00"+b))
	}
}

// TestPlace holds a Place's bounds: how many numbers, and each of them, first and last.
func TestPlace(t *testing.T) {
	for want, n := range map[string]int{"00": 0, "01": 1, "7f": 127, "80 01": 128, "ff 01": 255, "80 02": 256, "ff 7f": 16383, "80 80 01": 16384, "ff ff 7f": 1<<21 - 1, "80 80 80 01": 1 << 21, "ff ff ff 7f": 1<<28 - 1, "80 80 80 80 01": 1 << 28, "fe ff ff ff 07": math.MaxInt32 - 1, "ff ff ff ff 07": math.MaxInt32} {
		checkTold(t, moved(n), hexed(t, "02 01"+want), moved(n))
		checkTold(t, moved(n, 5, n), hexed(t, "02 03"+want+"05"+want), moved(n, 5, n))
	}
	for _, n := range []int{-1, -2, -128, math.MinInt32, math.MinInt, math.MaxInt32 + 1, math.MaxUint32, math.MaxUint32 + 1, math.MaxUint32 + 2, math.MaxInt} {
		for at := range 3 {
			place := []int{1, 2, 3}
			place[at] = n
			for _, kind := range []int{2, 3, 4, 5, 6, 7} {
				checkRefused(t, api.Event{Kind: kind, Place: place})
			}
		}
	}
	for _, n := range []int{0, 1, 3, 126, 127, 128, 129, 191, 192, 193, 194, 256, 320, 1000, 1 << 14} {
		place := slices.Repeat([]int{math.MaxInt32}, n)
		want := append([]byte("\x02"+modelCount(int64(n))), bytes.Repeat(hexed(t, "ff ff ff ff 07"), n)...)
		if n > 192 {
			checkRefused(t, moved(place...))
			checkNone(t, want)
		} else {
			checkTold(t, moved(place...), want, moved(place...))
		}
	}
	for _, b := range []string{"02 01 80 80 80 80 08", "02 01 ff ff ff ff 0f", "02 01 80 80 80 80 10", "02 02 00 80 80 80 80 08", "02 01", "02 02 00", "02 00 01"} {
		checkNone(t, hexed(t, b))
	}
}

// TestTime holds Time's bounds, of both kinds that have it.
func TestTime(t *testing.T) {
	for _, kind := range []int{api.EvSet, api.EvFired} {
		ahead := string([]byte{byte(kind), 1, 9})
		for want, n := range map[string]int64{"00": 0, "01": 1, "7f": 127, "80 01": 128, "80 80 80 80 10": 1 << 32, "ff ff ff ff ff ff ff 01": 1<<50 - 1, "80 80 80 80 80 80 80 02": 1 << 50} {
			e := api.Event{Kind: kind, Place: []int{9}, Time: n}
			checkTold(t, e, append([]byte(ahead), hexed(t, want)...), e)
		}
		for _, n := range []int64{-1, -2, math.MinInt64, math.MinInt64 + 1, -1 << 50, 1<<50 + 1, 1 << 51, 1 << 62, math.MaxInt64} {
			checkRefused(t, api.Event{Kind: kind, Place: []int{9}, Time: n})
		}
		for _, b := range []string{"", "80", "80 00", "81 80 80 80 80 80 80 02", "80 80 80 80 80 80 80 03", "80 80 80 80 80 80 80 80 01", "ff ff ff ff ff ff ff ff 7f"} {
			checkNone(t, append([]byte(ahead), hexed(t, b)...))
		}
	}
}

// TestFine holds an Outcome that is Fine: its Value as it is printed, whatever tells it.
func TestFine(t *testing.T) {
	number := func(neg bool, digits string, exp int) api.Value {
		return api.Value{Kind: api.Number, Num: api.Dec{Neg: neg, Digits: digits, Exp: exp}}
	}
	field := func(name string, v api.Value) api.Field { return api.Field{Name: name, Value: v} }
	one := number(false, "1", 0)
	for _, x := range []struct {
		v    api.Value
		want string
	}{
		{api.Value{}, "null"},
		{api.Value{Kind: 6, Text: "x", List: []api.Value{one}}, "null"},
		{api.Value{Kind: -1, Truth: true}, "null"},
		{api.Value{Truth: true, Text: "x"}, "null"},
		{api.Value{Kind: api.Truth, Truth: true, Text: "x"}, "true"},
		{api.Value{Kind: api.Truth}, "false"},
		{number(true, "000", 5), "0"},
		{number(true, "x0150y", -2), "-15e-1"},
		{number(false, "1", 9999), "1e9999"},
		{number(false, "1", 10000), "0"},
		{number(false, "10", 9999), "0"},
		{text("\xffé\n\x1f\"\\/"), "\"\uFFFDé\\n\\u001f\\\"\\\\/\""},
		{api.Value{Kind: api.List, Fields: []api.Field{field("a", one)}}, "[]"},
		{api.Value{Kind: api.List, List: []api.Value{{Kind: 9}, one}}, "[null,1]"},
		{api.Value{Kind: api.Object, List: []api.Value{one}}, "{}"},
		{api.Value{Kind: api.Object, Fields: []api.Field{field("b", one), field("a", one), field("b", text("x"))}}, `{"a":1,"b":1}`},
		{api.Value{Kind: api.Object, Fields: []api.Field{field("\xff", one), field("\uFFFD", text("x"))}}, "{\"\uFFFD\":1}"},
	} {
		want := []byte("\x04\x01\x07\x01" + modelText(x.want))
		checkTold(t, toldOf(fine(x.v), 7), want, toldOf(fine(parsed(t, x.want)), 7))
		for _, o := range []api.Outcome{{Fine: true, Value: x.v, Error: "e"}, {Fine: true, Value: x.v, Cause: "c"}, {Fine: true, Value: x.v, Error: "e", Cause: "c"}, {Fine: true, Value: x.v, Error: "\x00"}} {
			checkRefused(t, toldOf(o, 7))
		}
	}
}

// TestFineBounds holds that a Value which is Fine is sound: its depth, and its text's length, as it is printed.
func TestFineBounds(t *testing.T) {
	rest := api.MaxText - len(`""`)
	long := strings.Repeat("x", 2*api.MaxText)
	object := func(v api.Value, times int) api.Value {
		for range times {
			v = api.Value{Kind: api.Object, Fields: []api.Field{{Name: "n", Value: v}}}
		}
		return v
	}
	for _, v := range []api.Value{
		nested(api.Value{}, 64), nested(api.Value{Kind: api.List}, 63), object(text("x"), 64), nested(object(api.Value{Kind: api.Object}, 31), 32),
		text(long[:rest]), nested(text(long[:rest-128]), 64), text(strings.Repeat("\n", rest/2)), text(strings.Repeat("\xff", rest/3)), text(strings.Repeat("\x01", rest/6)),
		{Kind: api.Number, Num: api.Dec{Digits: strings.Repeat("1", api.MaxText)}},
		{Kind: api.Number, Num: api.Dec{Digits: strings.Repeat("0", 2*api.MaxText) + "1"}}, {Kind: api.Number, Num: api.Dec{Digits: long + "1"}},
		{Kind: 9, Text: long, List: []api.Value{nested(api.Value{}, 65)}}, {Kind: api.Truth, Text: long},
		{Kind: api.Object, Fields: []api.Field{{Name: "a"}, {Name: "a", Value: text(long)}, {Name: "a", Value: nested(api.Value{}, 65)}}},
	} {
		if !modelTellable(toldOf(fine(v))) {
			t.Errorf("the model refuses %s", shown(toldOf(fine(v))))
		}
		checkModel(t, toldOf(fine(v)))
		checkModel(t, toldOf(fine(v), 1, 1, 0))
	}
	for _, v := range []api.Value{
		nested(api.Value{}, 65), nested(api.Value{Kind: api.List}, 64), object(text("x"), 65), nested(object(api.Value{Kind: api.Object}, 32), 32), nested(api.Value{}, 1<<16-1),
		text(long[:rest+1]), text(long), nested(text(long[:rest-127]), 64), text(strings.Repeat("\n", rest/2+1)), text(strings.Repeat("\xff", rest/3+1)), text(strings.Repeat("\x01", rest/6+1)),
		{Kind: api.Number, Num: api.Dec{Digits: strings.Repeat("1", api.MaxText+1)}}, {Kind: api.Number, Num: api.Dec{Neg: true, Digits: strings.Repeat("1", api.MaxText)}},
		{Kind: api.Object, Fields: []api.Field{{Name: "a", Value: text(long)}, {Name: "a"}}}, {Kind: api.Object, Fields: []api.Field{{Name: long}}},
	} {
		checkRefused(t, toldOf(fine(v)))
	}
	checkNone(t, []byte("\x04\x00\x01"+modelText(`"`+long[:rest+1]+`"`)))
	checkNone(t, []byte("\x04\x00\x01"+modelText(strings.Repeat("[", 65)+strings.Repeat("]", 65))))
}

// TestFailed holds an Outcome that isn't Fine: its Value counts as null, whatever else it has.
func TestFailed(t *testing.T) {
	for _, kind := range []int{0, 6, 7, 9, 255, 256, 257, -1, -3, math.MaxInt, math.MinInt, math.MinInt + 3} {
		v := api.Value{Kind: kind, Truth: true, Num: api.Dec{Digits: "1"}, Text: "x", List: []api.Value{nested(text("x"), 65)}, Fields: []api.Field{{Name: "a"}}}
		checkTold(t, toldOf(api.Outcome{Value: v, Error: "e", Cause: "why"}, 3), hexed(t, "04 01 03 00 01 65 03 77 68 79"), toldOf(failed("e", "why"), 3))
	}
	for _, v := range []string{"false", "true", "0", "1", `""`, `"null"`, "[]", "[null]", "{}", `{"a":null}`} {
		checkRefused(t, toldOf(api.Outcome{Value: parsed(t, v)}))
		checkRefused(t, toldOf(api.Outcome{Value: parsed(t, v), Error: "e", Cause: "c"}))
	}
	for _, v := range []api.Value{{Kind: api.Truth}, {Kind: api.Number}, {Kind: api.Text}, {Kind: api.List}, {Kind: api.Object}, nested(api.Value{}, 65), text(strings.Repeat("x", api.MaxText))} {
		checkRefused(t, toldOf(api.Outcome{Value: v, Error: "e"}))
	}
}

// TestErrorAndCause holds that both are UTF-8, each for itself, and at most MaxText bytes together.
func TestErrorAndCause(t *testing.T) {
	for _, s := range []string{"", "\x00", "\x7f", "é", "\uFFFD", "\uD7FF\uE000", "\U0010FFFF", "States.ALL", "\"\\\n"} {
		for _, o := range []api.Outcome{failed(s, ""), failed("", s), failed(s, s)} {
			checkTold(t, toldOf(o), []byte("\x04\x00\x00"+modelText(o.Error)+modelText(o.Cause)), toldOf(o))
		}
	}
	for _, s := range []string{"\xff", "\x80", "\xc3", "\xc0\x80", "\xe2\x82", "\xed\xa0\x80", "\xed\xb0\x80", "\xf4\x90\x80\x80", "\xf8\x88\x80\x80\x80", "fine\xff", "\xffine", "\xe9"} {
		for _, o := range []api.Outcome{failed(s, ""), failed("", s), failed(s, s), failed("e", s), failed(s, "c")} {
			checkRefused(t, toldOf(o))
			checkNone(t, []byte("\x04\x00\x00"+modelText(o.Error)+modelText(o.Cause)))
		}
	}
	apart := failed("\xe2\x82", "\xac") // a letter together, none each for itself
	checkRefused(t, toldOf(apart))
	checkNone(t, []byte("\x04\x00\x00"+modelText(apart.Error)+modelText(apart.Cause)))
}

// TestErrorAndCauseBounds holds MaxText: of bytes, not of letters.
func TestErrorAndCauseBounds(t *testing.T) {
	long, letters := strings.Repeat("x", api.MaxText+1), strings.Repeat("é", api.MaxText/2+1)
	for _, n := range []int{0, 1, 2, 127, 128, 16384, api.MaxText / 2, api.MaxText - 1, api.MaxText} {
		o := failed(long[:n], long[:api.MaxText-n])
		checkTold(t, toldOf(o), []byte("\x04\x00\x00"+modelText(o.Error)+modelText(o.Cause)), toldOf(o))
		for _, more := range []api.Outcome{failed(o.Error+"x", o.Cause), failed(o.Error, o.Cause+"x"), failed(long, o.Cause), failed(o.Error, long), failed(long, long)} {
			checkRefused(t, toldOf(more))
			checkNone(t, []byte("\x04\x00\x00"+modelText(more.Error)+modelText(more.Cause)))
		}
	}
	half := letters[:api.MaxText]
	checkModel(t, toldOf(failed(half, "")))
	checkModel(t, toldOf(failed("", half)))
	checkRefused(t, toldOf(failed(letters, "")))
	checkRefused(t, toldOf(failed(half, "x")))
	checkRefused(t, toldOf(failed("x", half)))
}
