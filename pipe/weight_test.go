package pipe_test

import (
	"slices"
	"strings"
	"testing"

	"voyage/api"
	"voyage/json"
)

// wrongPath and wrongKind, as told fields' values, are errors that are met where they stand.
func wrongPath() api.Value { return text("$.z") }
func wrongKind() api.Value { return number("1", 0) }

// filler is a row of texts that together weigh n bytes, which is at least 4.
func filler(n int) api.Value { return list(sized(n-2), sized(2)) }

// weighs wants that what stays of these fields (or what is told by them) weighs n bytes together: with a filler up to the bound what is wrong behind them is met, with one byte more it isn't.
func weighs(t *testing.T, what string, input api.Value, n int, fields ...api.Field) {
	t.Helper()
	with := func(fill int) api.Value {
		return object(append(slices.Clone(fields), field("!", filler(fill)), field("~.$", wrongPath()))...)
	}
	fills(t, with(api.MaxText-n), input, api.Value{}, api.ErrPath)
	fills(t, with(api.MaxText-n+1), input, api.Value{}, api.ErrLong)
	if t.Failed() {
		t.Fatalf("what weighs %d: %s", n, what)
	}
}

// P4.2: what weighs, and how much.
func TestWeight(t *testing.T) {
	for _, x := range []struct {
		v api.Value
		n int
	}{
		{api.Value{}, 4}, {everything(9), 4}, {api.Value{Kind: api.Truth, Truth: true}, 4}, {api.Value{Kind: api.Truth}, 5},
		{number("", 0), 1}, {number("5", 0), 1}, {number("10", 0), 3}, {number("150", -2), 5}, {api.Value{Kind: api.Number, Num: api.Dec{Neg: true, Digits: "7"}}, 2}, {number("1", -9999), 7},
		{text(""), 2}, {text("abc"), 5}, {text("é"), 4}, {text("\xff"), 5}, {text("\xe2\x82"), 8}, {text("\"\\\n"), 8}, {text("\x00"), 8}, {text("$.n"), 5},
	} {
		told := object(field("v", x.v))
		weighs(t, json.Print(x.v)+" that stays", told, 4*x.n, field("a", x.v), field("b", list(x.v, list(list(), x.v, object()))), field("c", nest(x.v, 5, "name")))
		weighs(t, json.Print(x.v)+" that was told", told, 3*x.n, field("a.$", text("$.v")), field("b", list(object(field("deep.$", text("$.v"))))), field("c.$", text("$['v']")))
	}
}

// P4.2: brackets and names of what stays weigh nothing, of what was told they do.
func TestWeightOfRows(t *testing.T) {
	long := strings.Repeat("n", api.MaxText)
	weighs(t, "empty rows", api.Value{}, 0, field("a", list()), field("b", object()), field("c", list(list(), object(field("x", list())))))
	weighs(t, "long names", number("3", 0), 3, field(long, number("1", 0)), field(long+"a", object(field(long, number("2", 0)), field(long+".$", wrongKind()), field(long+"b.$", text("$")), field("c", list()))))
	in := object(field("l", list(list(), number("1", 0))), field("o", object(field("key", text("v")))))
	weighs(t, "a told list", in, len(`[[],1]`), field("a.$", text("$.l")))
	weighs(t, "a told object", in, len(`{"key":"v"}`), field("a.$", text("$.o")))
	weighs(t, "all", in, len(`{"l":[[],1],"o":{"key":"v"}}`)+len(`[[],1]`), field("a.$", text("$")), field("b.$", text("$.l")))
}

// P4.2: the text that tells, and a field that isn't looked at, weigh nothing.
func TestWeightOfWhatGoes(t *testing.T) {
	name := strings.Repeat("n", 600000)
	long := text("$." + name)
	in := object(field(name, number("1", 0)))
	one := number("1", 0)
	fills(t, object(field("p.$", long), field("q.$", long), field("r.$", long)), in, object(field("p", one), field("q", one), field("r", one)), nil)
	weighs(t, "long paths", in, 2, field("p.$", long), field("q.$", long))
	great := sized(api.MaxText + 1)
	fills(t, object(field("p", one), field("p.$", great)), in, object(field("p", one)), nil)
	weighs(t, "what isn't looked at", in, 1, field("p", one), field("p.$", great), field("p.$.$", list(great)))
	fills(t, object(field("a.$", great), field("b.$", wrongKind())), in, api.Value{}, api.ErrPath)
	fills(t, object(field("a.$", list(great)), field("b.$", wrongPath())), in, api.Value{}, api.ErrKind)
}

// P4.2: as soon as it weighs too much, and no sooner.
func TestWeightOnTheWay(t *testing.T) {
	great, half := sized(api.MaxText+1), sized(600000)
	for _, x := range []struct {
		template api.Value
		want     error
	}{
		{object(field("p.$", text("$")), field("q.$", text("$"))), api.ErrLong}, {object(field("p.$", text("$")), field("q", half)), api.ErrLong}, {object(field("p", half), field("q.$", text("$"))), api.ErrLong}, {list(half, half), api.ErrLong}, {list(half, object(field("p.$", text("$")))), api.ErrLong}, {list(list(half), object(field("p", object(field("p", half))))), api.ErrLong},
		{object(field("p.$", text("$")), field("q.$", text("$")), field("z.$", wrongPath())), api.ErrLong}, {object(field("a.$", wrongPath()), field("p.$", text("$")), field("q.$", text("$"))), api.ErrPath}, {object(field("p.$", text("$")), field("pp.$", wrongPath()), field("q.$", text("$"))), api.ErrPath}, {object(field("p.$", text("$")), field("pp.$", wrongKind()), field("q.$", text("$"))), api.ErrKind},
		{list(great, object(field("a.$", wrongKind()))), api.ErrLong}, {list(object(field("a.$", wrongKind())), great), api.ErrKind}, {great, api.ErrLong}, {list(great), api.ErrLong},
	} {
		fills(t, x.template, half, api.Value{}, x.want)
	}
	many := object()
	for i := range 100000 {
		many.Fields = append(many.Fields, field(strings.Repeat("n", i%7)+string(rune(0x10000+i))+".$", text("$")))
	}
	fills(t, list(slices.Repeat([]api.Value{many}, 10)...), half, api.Value{}, api.ErrLong)
}

// P4.3: what has come of it must be sound; asked behind all that.
func TestFillSound(t *testing.T) {
	told := object(field("p.$", text("$")))
	most := sized(api.MaxText - len(`{"p":}`))
	fills(t, told, most, object(field("p", most)), nil)
	fills(t, told, text(most.Text+"x"), api.Value{}, api.ErrLong)
	fills(t, list(sized(api.MaxText-len(`[]`))), api.Value{}, list(sized(api.MaxText-len(`[]`))), nil)
	fills(t, list(sized(api.MaxText-1)), api.Value{}, api.Value{}, api.ErrLong)
	fills(t, sized(api.MaxText), api.Value{}, sized(api.MaxText), nil)
	fills(t, sized(api.MaxText+1), api.Value{}, api.Value{}, api.ErrLong)
	name := strings.Repeat("n", api.MaxText-len(`{"":1}`))
	fills(t, object(field(name+".$", text("$"))), number("1", 0), object(field(name, number("1", 0))), nil)
	fills(t, object(field(name+"n.$", text("$"))), number("1", 0), api.Value{}, api.ErrLong)
	fills(t, object(field(name+"n", api.Value{})), api.Value{}, api.Value{}, api.ErrLong)
	rows := list(slices.Repeat([]api.Value{list()}, 350000)...)
	fills(t, rows, api.Value{}, api.Value{}, api.ErrLong)
	fills(t, list(rows, object(field("p.$", wrongPath()))), api.Value{}, api.Value{}, api.ErrPath)

	fills(t, nest(text("in"), 64, ""), api.Value{}, nest(text("in"), 64, ""), nil)
	fills(t, nest(text("in"), 65, ""), api.Value{}, api.Value{}, api.ErrLong)
	fills(t, told, nest(text("in"), 63, ""), object(field("p", nest(text("in"), 63, ""))), nil)
	fills(t, told, nest(text("in"), 64, ""), api.Value{}, api.ErrLong)
	fills(t, list(told), nest(api.Value{}, 63, "k"), api.Value{}, api.ErrLong)
	fills(t, object(field("p", api.Value{}), field("p.$", nest(api.Value{}, 99, ""))), api.Value{}, object(field("p", api.Value{})), nil)
	fills(t, object(field("a.$", text("$")), field("b.$", wrongKind())), nest(api.Value{}, 99, ""), api.Value{}, api.ErrKind)
	fills(t, list(nest(api.Value{}, 99, ""), object(field("b.$", wrongPath()))), api.Value{}, api.Value{}, api.ErrPath)
}

// R1: as deep as the document's bound lets values be.
func TestFillFarBeyondMaxDepth(t *testing.T) {
	const deep = 1 << 16
	for _, name := range []string{"", "n"} {
		fills(t, nest(api.Value{}, deep-1, name), api.Value{}, api.Value{}, api.ErrLong)
		fills(t, object(field("p.$", text("$"))), nest(api.Value{}, deep-1, name), api.Value{}, api.ErrLong)
		fills(t, nest(object(field("p.$", wrongPath())), deep-2, name), api.Value{}, api.Value{}, api.ErrPath)
	}
}
