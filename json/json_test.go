package json_test

import (
	"math"
	"slices"
	"strings"
	"testing"

	"voyage/api"
	"voyage/json"
)

func null() api.Value               { return api.Value{} }
func truth(b bool) api.Value        { return api.Value{Kind: api.Truth, Truth: b} }
func text(s string) api.Value       { return api.Value{Kind: api.Text, Text: s} }
func list(v ...api.Value) api.Value { return api.Value{Kind: api.List, List: v} }
func field(n string, v api.Value) api.Field {
	return api.Field{Name: n, Value: v}
}
func object(f ...api.Field) api.Value { return api.Value{Kind: api.Object, Fields: f} }

// number is told as it stands: no one form is made of it.
func number(digits string, exp int) api.Value {
	return api.Value{Kind: api.Number, Num: api.Dec{Digits: digits, Exp: exp}}
}
func below(digits string, exp int) api.Value {
	return api.Value{Kind: api.Number, Num: api.Dec{Neg: true, Digits: digits, Exp: exp}}
}

// everything has a mark in each field, so that of what its kind doesn't name nothing may be left.
func everything(kind int) api.Value {
	return api.Value{Kind: kind, Truth: true, Num: api.Dec{Neg: true, Digits: "070", Exp: 2}, Text: "t\xff", List: []api.Value{truth(true), {Kind: 9, Text: "x"}}, Fields: []api.Field{field("f\x80", text("\xc0"))}}
}

// identical holds two values against each other field by field, those too that their kinds don't name. A nil list and an empty one are the same.
func identical(a, b api.Value) bool {
	return a.Kind == b.Kind && a.Truth == b.Truth && a.Num == b.Num && a.Text == b.Text && slices.EqualFunc(a.List, b.List, identical) &&
		slices.EqualFunc(a.Fields, b.Fields, func(x, y api.Field) bool { return x.Name == y.Name && identical(x.Value, y.Value) })
}

// nest puts v into so many lists, or, where there is a name, objects.
func nest(v api.Value, times int, name string) api.Value {
	for range times {
		if name == "" {
			v = list(v)
		} else {
			v = object(field(name, v))
		}
	}
	return v
}

// P2.1
var norms = []struct{ in, want api.Value }{
	{null(), null()}, {everything(api.Null), null()}, {everything(9), null()}, {everything(-1), null()}, {everything(6), null()}, {everything(math.MaxInt), null()}, {everything(math.MinInt), null()},
	{truth(false), truth(false)}, {truth(true), truth(true)}, {everything(api.Truth), truth(true)}, {api.Value{Kind: api.Truth, Text: "true"}, truth(false)},
	{everything(api.Number), below("7", 3)}, {number("0150", 1), number("15", 2)}, {number("", 5), number("", 0)}, {below("00", 0), number("", 0)}, {number("1", 10000), number("", 0)}, {number("1x5", 0), number("15", 0)}, {number("1", 9999), number("1", 9999)}, {number("1", -10000), number("", 0)},
	{everything(api.Text), text("t\ufffd")}, {text(""), text("")}, {text("a\x00\x1f\"\\/\x7f"), text("a\x00\x1f\"\\/\x7f")},
	{everything(api.List), list(truth(true), null())}, {list(), list()}, {list(list(), object()), list(list(), object())}, {list(number("10", 0), number("1", 1)), list(number("1", 1), number("1", 1))},
	{everything(api.Object), object(field("f\ufffd", text("\ufffd")))}, {object(), object()},
	{object(field("a", number("1", 0)), field("a", number("2", 0))), object(field("a", number("1", 0)))},
	{object(field("b", null()), field("a", truth(true)), field("", text("x")), field("B", list()), field("ab", null())), object(field("", text("x")), field("B", list()), field("a", truth(true)), field("ab", null()), field("b", null()))},
	{object(field("\xff", number("1", 0)), field("\ufffd", number("2", 0)), field("\x80", number("3", 0)), field("\xff\xff", number("4", 0)), field("\xc3(", number("5", 0)), field("\ufffd(", number("6", 0))), object(field("\ufffd", number("1", 0)), field("\ufffd(", number("5", 0)), field("\ufffd\ufffd", number("4", 0)))},
	{object(field("\U00010000", null()), field("\uffff", null()), field("\xff", null()), field("\u07ff", null()), field("\u0800", null()), field("z", null()), field("\u0080", null())), object(field("z", null()), field("\u0080", null()), field("\u07ff", null()), field("\u0800", null()), field("\ufffd", null()), field("\uffff", null()), field("\U00010000", null()))},
	{list(object(field("y", list(object(field("q", null()), field("p", null()), field("q", truth(true))))), field("x", everything(7)))), list(object(field("x", null()), field("y", list(object(field("p", null()), field("q", null()))))))},
	{object(field("a", everything(9)), field("a", truth(true))), object(field("a", null()))},
}

// P2.1: and what is in the one form stays.
func TestNorm(t *testing.T) {
	for i, x := range norms {
		if got := json.Norm(x.in); !identical(got, x.want) {
			t.Errorf("%d: Norm(%v): %v, want %v", i, x.in, got, x.want)
		}
		if got := json.Norm(x.want); !identical(got, x.want) {
			t.Errorf("%d: Norm(%v): %v", i, x.want, got)
		}
	}
}

// P2.1
func TestSame(t *testing.T) {
	for i, x := range norms {
		if !json.Same(x.in, x.want) || !json.Same(x.want, x.in) || !json.Same(x.in, x.in) {
			t.Errorf("%d: not the same as its one form: %v", i, x.in)
		}
		for j, y := range norms {
			if got, want := json.Same(x.in, y.in), identical(x.want, y.want); got != want {
				t.Errorf("Same of %d and %d: %v", i, j, got)
			}
		}
	}
	one, two := number("1", 0), number("2", 0)
	different := []api.Value{
		null(), truth(false), truth(true), number("", 0), one, two, below("1", 0), number("1", 1), number("1", -1), text(""), text("1"), text("a"), text("null"),
		list(), list(null()), list(null(), null()), list(one), list(two), list(one, two), list(two, one), list(list()), list(object()),
		object(), object(field("", null())), object(field("a", null())), object(field("a", one)), object(field("a", two)), object(field("b", one)), object(field("a", one), field("b", two)), object(field("a", two), field("b", one)), object(field("a", list())),
	}
	for i, a := range different {
		for j, b := range different {
			if got := json.Same(a, b); got != (i == j) {
				t.Errorf("Same(%v, %v): %v", a, b, got)
			}
		}
	}
}

// P2.2
func TestGet(t *testing.T) {
	o := object(field("b", number("20", -1)), field("a", number("1", 0)), field("a", number("2", 0)), field("\xff", list(everything(9))), field("\ufffd", null()), field("", text("\x80")), field("n", null()))
	for _, x := range []struct {
		v    api.Value
		name string
		want api.Value
		ok   bool
	}{
		{o, "a", number("1", 0), true}, {o, "b", number("2", 0), true}, {o, "", text("\ufffd"), true}, {o, "n", null(), true},
		{o, "\xff", list(null()), true}, {o, "\ufffd", list(null()), true}, {o, "\x80", list(null()), true},
		{o, "\xff\xff", null(), false}, {o, "c", null(), false}, {o, "A", null(), false}, {o, "a ", null(), false}, {o, "aa", null(), false},
		{object(), "", null(), false}, {object(), "a", null(), false}, {everything(api.Object), "f\ufffd", text("\ufffd"), true},
		{null(), "", null(), false}, {everything(api.Null), "f\x80", null(), false}, {everything(api.Truth), "f\x80", null(), false}, {everything(api.Number), "f\x80", null(), false}, {everything(api.Text), "f\x80", null(), false}, {everything(api.List), "f\x80", null(), false}, {everything(9), "f\x80", null(), false}, {everything(-5), "f\x80", null(), false},
	} {
		if got, ok := json.Get(x.v, x.name); ok != x.ok || !identical(got, x.want) {
			t.Errorf("Get(%v, %q): %v, %v", x.v, x.name, got, ok)
		}
	}
}

// P2.2
func TestAt(t *testing.T) {
	l := list(number("10", 0), object(field("b", null()), field("a", null()), field("b", truth(true))), everything(9))
	for _, x := range []struct {
		v    api.Value
		i    int
		want api.Value
		ok   bool
	}{
		{list(number("1", 0)), 0, number("1", 0), true}, {list(number("1", 0)), -1, null(), false}, {list(number("1", 0)), 1, null(), false},
		{l, 0, number("1", 1), true}, {l, 1, object(field("a", null()), field("b", null())), true}, {l, 2, null(), true}, {l, 3, null(), false},
		{l, math.MaxInt, null(), false}, {l, math.MinInt, null(), false}, {l, 1 << 32, null(), false}, {list(), 0, null(), false},
		{everything(api.List), 0, truth(true), true}, {everything(api.Null), 0, null(), false}, {everything(api.Truth), 0, null(), false}, {everything(api.Number), 0, null(), false}, {everything(api.Text), 0, null(), false}, {everything(api.Object), 0, null(), false}, {everything(9), 0, null(), false},
	} {
		if got, ok := json.At(x.v, x.i); ok != x.ok || !identical(got, x.want) {
			t.Errorf("At(%v, %d): %v, %v", x.v, x.i, got, ok)
		}
	}
}

// P2.2: fields and kinds that don't count make nothing deeper.
func TestDepth(t *testing.T) {
	for i, x := range []struct {
		v    api.Value
		want int
	}{
		{null(), 0}, {truth(true), 0}, {number("1", 0), 0}, {text("[[]]"), 0}, {list(), 1}, {object(), 1}, {list(list()), 2}, {list(null()), 1}, {object(field("a", number("1", 0))), 1}, {object(field("a", object())), 2}, {list(object(field("a", list()))), 3},
		{list(list(list()), list()), 3}, {list(list(), list(list())), 3}, {list(number("1", 0), nest(null(), 5, "")), 6}, {object(field("a", null()), field("b", nest(null(), 4, "x"))), 5}, {object(field("b", nest(null(), 4, "")), field("a", null())), 5},
		{object(field("a", null()), field("a", nest(null(), 3, ""))), 1}, {object(field("a", nest(null(), 3, "")), field("a", null())), 4}, {object(field("\xff", null()), field("\ufffd", list(list()))), 1},
		{everything(api.Null), 0}, {everything(api.Truth), 0}, {everything(api.Number), 0}, {everything(api.Text), 0}, {everything(9), 0}, {everything(-1), 0}, {everything(api.List), 1}, {everything(api.Object), 1}, {list(everything(9)), 1},
		{nest(null(), 64, ""), 64}, {nest(null(), 65, ""), 65}, {nest(list(), 64, "a"), 65}, {nest(nest(null(), 500, "q"), 500, ""), 1000},
	} {
		if got := json.Depth(x.v); got != x.want {
			t.Errorf("%d: Depth(%v): %d, want %d", i, x.v, got, x.want)
		}
	}
}

// P2.3
func TestPrint(t *testing.T) {
	for _, x := range []struct {
		v    api.Value
		want string
	}{
		{object(field("b", list(number("150", -2), below("", 0))), field("a", text("é/"))), `{"a":"é/","b":[15e-1,0]}`},
		{text("\x1f\xff\x7f"), "\"\\u001f\ufffd\x7f\""}, {null(), "null"}, {truth(true), "true"}, {truth(false), "false"},
		{number("0150", 1), "15e2"}, {below("3", 0), "-3"}, {number("1", -9999), "1e-9999"}, {number("10", 9999), "0"}, {number("", 0), "0"},
		{list(), "[]"}, {object(), "{}"}, {list(null()), "[null]"}, {list(truth(true), truth(false), null()), "[true,false,null]"}, {list(list(), list(list())), "[[],[[]]]"}, {list(object(), object(field("", object()))), `[{},{"":{}}]`},
		{object(field("a", number("1", 0)), field("a", number("2", 0))), `{"a":1}`}, {object(field("b", null()), field("c", list()), field("a", truth(true))), `{"a":true,"b":null,"c":[]}`},
		{object(field("\"\\\n\x01\xfe", text("\t"))), "{\"\\\"\\\\\\n\\u0001\ufffd\":\"\\t\"}"}, {object(field("\xff", number("1", 0)), field("\x80", number("2", 0))), "{\"\ufffd\":1}"},
		{text(""), `""`}, {text("a b/'<>&"), `"a b/'<>&"`}, {text("\"\\"), `"\"\\"`}, {text("\b\t\n\f\r"), `"\b\t\n\f\r"`}, {text("\u007f\u0080\u2028\u2029\ufeff"), "\"\u007f\u0080\u2028\u2029\ufeff\""}, {text("\u0020"), `" "`},
		{text("\u07ff\u0800\ud7ff\ue000\uffff\U00010000\U0010ffff"), "\"\u07ff\u0800\ud7ff\ue000\uffff\U00010000\U0010ffff\""},
		{everything(9), "null"}, {everything(-1), "null"}, {everything(api.Truth), "true"}, {everything(api.Number), "-7e3"}, {everything(api.Text), "\"t\ufffd\""}, {everything(api.List), "[true,null]"}, {everything(api.Object), "{\"f\ufffd\":\"\ufffd\"}"},
	} {
		if got := json.Print(x.v); got != x.want {
			t.Errorf("Print(%v): %s, want %s", x.v, got, x.want)
		}
	}
}

// P2.3: each of the letters below 20.
func TestPrintLowLetters(t *testing.T) {
	const want = `\u0000 \u0001 \u0002 \u0003 \u0004 \u0005 \u0006 \u0007 \b \t \n \u000b \f \r \u000e \u000f \u0010 \u0011 \u0012 \u0013 \u0014 \u0015 \u0016 \u0017 \u0018 \u0019 \u001a \u001b \u001c \u001d \u001e \u001f`
	for i, w := range strings.Fields(want) {
		if got := json.Print(text(string(rune(i)))); got != `"`+w+`"` {
			t.Errorf("%x: %s", i, got)
		}
	}
}

// P2.1 to P2.3: what bytes say; a byte at which no letter begins counts for itself.
func TestSaid(t *testing.T) {
	bad := func(n int) string { return strings.Repeat("\ufffd", n) }
	for in, want := range map[string]string{
		"\x7f": "\x7f", "\xc2\x80": "\u0080", "\xdf\xbf": "\u07ff", "\xe0\xa0\x80": "\u0800", "\xed\x9f\xbf": "\ud7ff", "\xee\x80\x80": "\ue000", "\xef\xbf\xbd": "\ufffd", "\xef\xbf\xbf": "\uffff", "\xf0\x90\x80\x80": "\U00010000", "\xf4\x8f\xbf\xbf": "\U0010ffff",
		"\x80": bad(1), "\xbf": bad(1), "\xc0\x80": bad(2), "\xc1\xbf": bad(2), "\xe0\x80\x80": bad(3), "\xe0\x9f\xbf": bad(3), "\xed\xa0\x80": bad(3), "\xed\xbf\xbf": bad(3), "\xed\xa0\xbd\xed\xb8\x80": bad(6), "\xf0\x80\x80\x80": bad(4), "\xf0\x8f\xbf\xbf": bad(4), "\xf4\x90\x80\x80": bad(4), "\xf5\x80\x80\x80": bad(4), "\xf8\x88\x80\x80\x80": bad(5), "\xfe\xff": bad(2),
		"\xc3": bad(1), "\xc3(": bad(1) + "(", "\xe2\x82": bad(2), "\xe2\x82a": bad(2) + "a", "\xf0\x9f\x98": bad(3), "\xf0\x9f\x98\xc3\xa9": bad(3) + "é", "\xe2\xc3\xa9": bad(1) + "é", "a\xffb\xff\xffc": "a" + bad(1) + "b" + bad(2) + "c", "é\x80": "é" + bad(1), "\xc3\xa9\xa9": "é" + bad(1),
	} {
		if got := json.Norm(text(in)).Text; got != want {
			t.Errorf("Norm of %x: %x, want %x", in, got, want)
		}
		if got := json.Print(list(text(in))); got != `["`+want+`"]` {
			t.Errorf("Print of %x: %x", in, got)
		}
		o := object(field(in, truth(true)), field(want, truth(false)))
		if got := json.Norm(o); !identical(got, object(field(want, truth(true)))) {
			t.Errorf("Norm of a name %x: %v", in, got)
		}
		if got, ok := json.Get(o, want); !ok || !got.Truth {
			t.Errorf("Get of a name %x: %v, %v", in, got, ok)
		}
		if !json.Same(text(in), text(want)) || json.Same(text(in), text(want+"x")) {
			t.Errorf("Same of %x", in)
		}
	}
}

// R1: as deep as the document's bound lets values be.
func TestFarBeyondMaxDepth(t *testing.T) {
	const deep = 1 << 16
	for _, name := range []string{"", "n"} {
		v := nest(number("10", 0), deep-1, name)
		if got := json.Depth(v); got != deep-1 {
			t.Errorf("Depth: %d", got)
		}
		open, end := "[", "]"
		if name != "" {
			open, end = `{"n":`, "}"
		}
		want := strings.Repeat(open, deep-1) + "1e1" + strings.Repeat(end, deep-1)
		if json.Print(v) != want || json.Print(json.Norm(v)) != want {
			t.Error("Print of a deep value")
		}
		if !json.Same(v, nest(number("1", 1), deep-1, name)) || json.Same(v, nest(number("2", 1), deep-1, name)) {
			t.Error("Same of deep values")
		}
	}
}
