package path_test

import (
	"math"
	"slices"
	"strings"
	"testing"

	"voyage/api"
	"voyage/json"
	"voyage/path"
)

func name(s string) api.Step { return api.Step{Name: s} }
func at(i int) api.Step      { return api.Step{Place: i, IsAt: true} }

// input and context give paths in the one form.
func input(s ...api.Step) api.Path   { return api.Path{Set: true, Steps: s} }
func context(s ...api.Step) api.Path { return api.Path{Set: true, Context: true, Steps: s} }

// nothing is null, whatever else it has.
func nothing() api.Path {
	return api.Path{Set: true, Nothing: true, Context: true, Steps: []api.Step{name("a"), at(-1)}}
}

// samePath holds two paths against each other field by field, those too that don't count.
func samePath(a, b api.Path) bool {
	return a.Set == b.Set && a.Nothing == b.Nothing && a.Context == b.Context && slices.Equal(a.Steps, b.Steps)
}

// identical holds two values against each other field by field, those too that their kinds don't name. A nil list and an empty one are the same.
func identical(a, b api.Value) bool {
	return a.Kind == b.Kind && a.Truth == b.Truth && a.Num == b.Num && a.Text == b.Text && slices.EqualFunc(a.List, b.List, identical) &&
		slices.EqualFunc(a.Fields, b.Fields, func(x, y api.Field) bool { return x.Name == y.Name && identical(x.Value, y.Value) })
}

func text(s string) api.Value         { return api.Value{Kind: api.Text, Text: s} }
func list(v ...api.Value) api.Value   { return api.Value{Kind: api.List, List: v} }
func object(f ...api.Field) api.Value { return api.Value{Kind: api.Object, Fields: f} }
func field(n string, v api.Value) api.Field {
	return api.Field{Name: n, Value: v}
}

// everything has a mark in each field, so that what its kind doesn't name must not be gone into.
func everything(kind int) api.Value {
	return api.Value{Kind: kind, Truth: true, Num: api.Dec{Neg: true, Digits: "070", Exp: 2}, Text: "t\xff", List: []api.Value{text("in"), {Kind: 9, Text: "x"}}, Fields: []api.Field{field("f\x80", text("\xc0"))}}
}

// value is that of a text.
func value(t *testing.T, s string) api.Value {
	t.Helper()
	v, err := json.Parse(s)
	if err != nil {
		t.Fatalf("%s: %v", s, err)
	}
	return v
}

// parsed is the path of a text.
func parsed(t *testing.T, s string) api.Path {
	t.Helper()
	p, err := path.Parse(s)
	if err != nil {
		t.Fatalf("%s: %v", s, err)
	}
	return p
}

// P3.5
func TestPlain(t *testing.T) {
	for _, x := range []struct {
		p    api.Path
		want bool
	}{
		{input(), true}, {api.Path{}, true}, {input(name("a")), true}, {input(name("")), true}, {input(name("\xff"), name("it's")), true}, {input(at(0)), true}, {input(at(math.MaxInt)), true}, {input(name("a"), at(3), name("-1")), true},
		{api.Path{Nothing: true}, false}, {nothing(), false}, {api.Path{Set: true, Nothing: true, Steps: []api.Step{name("a")}}, false},
		{context(), false}, {context(name("a")), false}, {api.Path{Context: true}, false},
		{input(at(-1)), false}, {input(at(math.MinInt)), false}, {input(at(-1), name("a")), false}, {input(name("a"), at(0), at(-2), at(5)), false}, {context(at(-1)), false},
		{input(api.Step{Name: "a", Place: -1}), true}, {input(api.Step{Name: "a", Place: -1, IsAt: true}), false},
	} {
		if got := path.Plain(x.p); got != x.want {
			t.Errorf("Plain(%+v): %v", x.p, got)
		}
	}
}

const exampleInput = `{"a": {"b-c": [1, 2, 3]}, "": 5}`

// P3.6
func TestGet(t *testing.T) {
	in, ctx := value(t, exampleInput), value(t, `{"Execution": 7, "l": [[], [true, null]]}`)
	for _, x := range []struct{ path, want string }{
		{"$.a.b-c[-1]", "3"}, {"$['']", "5"}, {"$$.Execution", "7"}, {"$", `{"":5,"a":{"b-c":[1,2,3]}}`}, {"$$", `{"Execution":7,"l":[[],[true,null]]}`},
		{"$.a", `{"b-c":[1,2,3]}`}, {"$.a.b-c", "[1,2,3]"}, {"$.a.b-c[0]", "1"}, {"$.a.b-c[1]", "2"}, {"$.a.b-c[2]", "3"}, {"$.a.b-c[-2]", "2"}, {"$.a.b-c[-3]", "1"},
		{"$$.l[1][0]", "true"}, {"$$.l[-1][-1]", "null"}, {"$$.l[0]", "[]"},
		{"$.a.b-c[3]", ""}, {"$.a.b-c[-4]", ""}, {"$.a.b-c[2147483647]", ""}, {"$.a.b-c[-2147483647]", ""}, {"$.a[0]", ""}, {"$.a[-1]", ""}, {"$.x", ""}, {"$.A", ""}, {"$.a.b", ""}, {"$.a.x.y", ""}, {"$[''].z", ""}, {"$[''][0]", ""}, {"$[0]", ""}, {"$.a.b-c.a", ""}, {"$.a.b-c['']", ""}, {"$.a.b-c['0']", ""}, {"$.a.b-c[0].a", ""}, {"$.a.b-c[0][0]", ""},
		{"$.Execution", ""}, {"$$.a", ""}, {"$$.l[0][0]", ""}, {"$$.l[0][-1]", ""}, {"$$.l[1][1].a", ""}, {"$$.l[1][1][0]", ""}, {"$$.l[1][0].a", ""},
	} {
		got, ok := path.Get(parsed(t, x.path), in, ctx)
		if ok != (x.want != "") || ok && json.Print(got) != x.want || !ok && !identical(got, api.Value{}) {
			t.Errorf("Get of %s: %s, %v", x.path, json.Print(got), ok)
		}
	}
	for _, p := range []api.Path{{Nothing: true}, nothing(), {Nothing: true, Steps: []api.Step{name("nowhere")}}} {
		if got, ok := path.Get(p, in, ctx); !ok || !identical(got, api.Value{}) {
			t.Errorf("Get of a null path: %+v, %v", got, ok)
		}
	}
}

// P3.6: values and paths that are told in other ways than the one form.
func TestGetGoesByMeaning(t *testing.T) {
	twice := object(field("b", text("b")), field("a", text("first")), field("a", list(text("second"))), field("\xff", text("bad")), field("\ufffd", text("good")), field("\ufffd\x80", text("two")), field("n", everything(9)))
	for i, x := range []struct {
		p    api.Path
		v    api.Value
		want api.Value
		ok   bool
	}{
		{input(name("a")), twice, text("first"), true}, {input(name("a"), at(0)), twice, api.Value{}, false}, {input(name("b")), twice, text("b"), true}, {input(name("n")), twice, api.Value{}, true},
		{input(name("\xff")), twice, text("bad"), true}, {input(name("\x80")), twice, text("bad"), true}, {input(name("\ufffd")), twice, text("bad"), true}, {input(name("\xc3\x28")), twice, api.Value{}, false}, {input(name("\xff\xff")), twice, text("two"), true}, {input(name("\xff\ufffd")), twice, text("two"), true}, {input(name("\xe2\x82")), twice, text("two"), true}, {input(name("\xff\xff\xff")), twice, api.Value{}, false},
		{api.Path{Steps: []api.Step{name("a")}}, twice, text("first"), true}, {api.Path{}, text("\xff"), text("\ufffd"), true},
		{input(api.Step{Name: "a", Place: 1}), twice, text("first"), true}, {input(api.Step{Name: "a", Place: 1, IsAt: true}), list(text("x"), text("y")), text("y"), true}, {input(api.Step{Name: "a", IsAt: true}), twice, api.Value{}, false},
		{input(), object(field("b", everything(api.Truth)), field("a", everything(-1)), field("b", text("x"))), object(field("a", api.Value{}), field("b", api.Value{Kind: api.Truth, Truth: true})), true},
		{input(at(0)), everything(api.List), text("in"), true}, {input(at(1)), everything(api.List), api.Value{}, true}, {input(at(-2)), everything(api.List), text("in"), true}, {input(name("f\ufffd")), everything(api.List), api.Value{}, false},
		{input(name("f\ufffd")), everything(api.Object), text("\ufffd"), true}, {input(at(0)), everything(api.Object), api.Value{}, false}, {input(at(-1)), everything(api.Object), api.Value{}, false},
		{input(at(0)), list(api.Value{Kind: api.Number, Num: api.Dec{Digits: "0150", Exp: 1}}), api.Value{Kind: api.Number, Num: api.Dec{Digits: "15", Exp: 2}}, true},
		{input(at(math.MaxInt)), list(text("a")), api.Value{}, false}, {input(at(math.MinInt)), list(text("a")), api.Value{}, false}, {input(at(-1 << 32)), list(text("a")), api.Value{}, false}, {input(at(1 << 32)), list(text("a")), api.Value{}, false}, {input(at(-1)), list(), api.Value{}, false}, {input(at(0)), list(), api.Value{}, false},
	} {
		if got, ok := path.Get(x.p, x.v, text("context")); ok != x.ok || !identical(got, x.want) {
			t.Errorf("%d: Get: %+v, %v, want %+v", i, got, ok, x.want)
		}
		fromContext := api.Path{Context: true, Steps: x.p.Steps}
		if got, ok := path.Get(fromContext, text("input"), x.v); ok != x.ok || !identical(got, x.want) {
			t.Errorf("%d: Get from the context: %+v, %v, want %+v", i, got, ok, x.want)
		}
	}
	for _, kind := range []int{api.Null, api.Truth, api.Number, api.Text, -1, 6, math.MaxInt} {
		for _, s := range []api.Step{name("f\x80"), name("f\ufffd"), at(0), at(-1)} {
			if got, ok := path.Get(input(s), everything(kind), everything(kind)); ok || !identical(got, api.Value{}) {
				t.Errorf("Get of %+v in kind %d: %+v, %v", s, kind, got, ok)
			}
		}
	}
}

// P3.7
func TestPut(t *testing.T) {
	for _, x := range []struct{ v, path, x, want string }{
		{exampleInput, "$.a.x.y", "9", `{"":5,"a":{"b-c":[1,2,3],"x":{"y":9}}}`},
		{exampleInput, "$.a.b-c[1]", "null", `{"":5,"a":{"b-c":[1,null,3]}}`},
		{exampleInput, "$", "[true]", "[true]"}, {"7", "$", "null", "null"},
		{exampleInput, "$.a.b-c[0]", "{}", `{"":5,"a":{"b-c":[{},2,3]}}`}, {exampleInput, "$.a.b-c[2]", `"z"`, `{"":5,"a":{"b-c":[1,2,"z"]}}`},
		{exampleInput, "$.a", "[]", `{"":5,"a":[]}`}, {exampleInput, "$['']", "{}", `{"":{},"a":{"b-c":[1,2,3]}}`}, {exampleInput, "$.a.b-c", "0", `{"":5,"a":{"b-c":0}}`},
		{"{}", "$.a", "1", `{"a":1}`}, {"{}", "$.a", "null", `{"a":null}`}, {"{}", "$.a.b.c", "[1]", `{"a":{"b":{"c":[1]}}}`}, {"{}", "$['']['']", "1", `{"":{"":1}}`}, {"{}", "$['it\\'s']['\\\\']", "1", `{"it's":{"\\":1}}`},
		{`{"b":1}`, "$.a", "2", `{"a":2,"b":1}`}, {`{"b":1}`, "$.c", "2", `{"b":1,"c":2}`}, {`{"a":1,"c":3}`, "$.b", "2", `{"a":1,"b":2,"c":3}`}, {`{"a":1,"c":3}`, "$.b.b", "2", `{"a":1,"b":{"b":2},"c":3}`}, {`{"é":1,"z":2}`, "$['ê']", "3", `{"z":2,"é":1,"ê":3}`}, {`{"é":1,"z":2}`, "$.zz", "3", `{"z":2,"zz":3,"é":1}`}, {`{"b":1}`, "$['']", "2", `{"":2,"b":1}`},
		{"[[1],[{}]]", "$[1][0].a.b", "2", `[[1],[{"a":{"b":2}}]]`}, {"[1]", "$[0]", "[]", "[[]]"}, {"[{}]", "$[0].a", "{}", `[{"a":{}}]`},
		{exampleInput, "$.a.b-c[3]", "1", ""}, {exampleInput, "$[''].z", "1", ""}, {exampleInput, "$[0]", "1", ""}, {exampleInput, "$$.a", "1", ""}, {exampleInput, "$$", "1", ""}, {exampleInput, "$.a.b-c[-1]", "1", ""}, {exampleInput, "$.a.b-c[-1].x", "1", ""},
		{exampleInput, "$.n[0]", "1", ""}, {exampleInput, "$.a.n[0]", "1", ""}, {exampleInput, "$.n.m[0].x", "1", ""}, {exampleInput, "$.a[0]", "1", ""}, {exampleInput, "$.a.b-c.x", "1", ""}, {exampleInput, "$.a.b-c['0']", "1", ""}, {exampleInput, "$.a.b-c[2147483647]", "1", ""}, {exampleInput, "$.a.b-c[0].x", "1", ""}, {exampleInput, "$.a.b-c[0][0]", "1", ""}, {exampleInput, "$['']['']", "1", ""},
		{"[]", "$[0]", "1", ""}, {"[]", "$.a", "1", ""}, {"null", "$.a", "1", ""}, {"null", "$[0]", "1", ""}, {"true", "$.a", "1", ""}, {`"a"`, "$.a", "1", ""}, {`"a"`, "$[0]", "1", ""}, {`{"a":null}`, "$.a.b", "1", ""}, {`{"a":null}`, "$.a", "1", `{"a":1}`},
	} {
		got, ok := path.Put(parsed(t, x.path), value(t, x.v), value(t, x.x))
		if ok != (x.want != "") || ok && json.Print(got) != x.want || !ok && !identical(got, api.Value{}) {
			t.Errorf("Put of %s at %s into %s: %s, %v", x.x, x.path, x.v, json.Print(got), ok)
		}
		if ok && !identical(got, value(t, x.want)) {
			t.Errorf("Put at %s: not in the one form: %+v", x.path, got)
		}
	}
	for _, p := range []api.Path{{Nothing: true}, nothing(), {Nothing: true, Steps: []api.Step{name("a")}}, context(), context(name("a")), input(at(-1)), input(at(math.MinInt)), input(at(math.MaxInt))} {
		if got, ok := path.Put(p, list(object()), text("x")); ok || !identical(got, api.Value{}) {
			t.Errorf("Put of %+v: %+v, %v", p, got, ok)
		}
	}
}

// P3.7: values and paths that are told in other ways than the one form; the answer is in it.
func TestPutGoesByMeaning(t *testing.T) {
	twice := object(field("b", text("b")), field("a", object(field("\x80", text("y")), field("x", list()))), field("a", text("second")), field("\xff", text("bad")), field("\ufffd", text("good")))
	a := field("a", object(field("x", list()), field("\ufffd", text("y"))))
	odd := everything(api.Text)
	odd.Text = "\xff"
	b, bad, put := field("b", text("b")), field("\ufffd", text("bad")), text("\ufffd")
	for i, x := range []struct {
		p    api.Path
		v    api.Value
		want api.Value
		ok   bool
	}{
		{input(name("a")), twice, object(field("a", put), b, bad), true}, {input(name("c")), twice, object(a, b, field("c", put), bad), true}, {input(name("\xfe")), twice, object(a, b, field("\ufffd", put)), true}, {input(name("\xfe"), name("x")), twice, api.Value{}, false},
		{input(name("a"), name("\xff")), twice, object(field("a", object(field("x", list()), field("\ufffd", put))), b, bad), true}, {input(name("\xff\xff"), name("\x80")), object(), object(field("\ufffd\ufffd", object(field("\ufffd", put)))), true},
		{input(api.Step{Name: "c", Place: -7}), twice, object(a, b, field("c", put), bad), true}, {api.Path{Steps: []api.Step{name("b")}}, twice, object(a, field("b", put), bad), true}, {api.Path{}, twice, put, true},
		{input(at(1)), everything(api.List), list(text("in"), put), true}, {input(api.Step{Name: "x", Place: 0, IsAt: true}), everything(api.List), list(put, api.Value{}), true}, {input(name("f\ufffd")), everything(api.List), api.Value{}, false}, {input(name("new")), everything(api.List), api.Value{}, false},
		{input(name("f\ufffd")), everything(api.Object), object(field("f\ufffd", put)), true}, {input(name("e")), everything(api.Object), object(field("e", put), field("f\ufffd", text("\ufffd"))), true}, {input(at(0)), everything(api.Object), api.Value{}, false},
		{input(name("a"), name("b")), object(field("a", everything(9))), api.Value{}, false}, {input(name("a"), at(0)), object(field("a", everything(9))), api.Value{}, false},
	} {
		if got, ok := path.Put(x.p, x.v, odd); ok != x.ok || !identical(got, x.want) {
			t.Errorf("%d: Put: %+v, %v, want %+v", i, got, ok, x.want)
		}
	}
}

// R1: as many steps as there may be values in values, and more where nothing is there yet.
func TestManySteps(t *testing.T) {
	const deep = 1 << 16
	long := api.Path{Steps: slices.Repeat([]api.Step{name("n")}, deep-1)}
	v, ok := path.Put(long, object(), text("end"))
	if !ok || json.Print(v) != strings.Repeat(`{"n":`, deep-1)+`"end"`+strings.Repeat("}", deep-1) {
		t.Error("Put of many steps")
	}
	if got, ok := path.Get(long, v, api.Value{}); !ok || got.Text != "end" {
		t.Errorf("Get of many steps: %v, %q", ok, got.Text)
	}
	again, ok := path.Put(long, v, text("other"))
	if got, is := path.Get(long, again, api.Value{}); !ok || !is || got.Text != "other" {
		t.Errorf("Put again: %v, %v, %q", ok, is, got.Text)
	}
	if got := path.Text(long); got != "$"+strings.Repeat(".n", deep-1) {
		t.Errorf("Text of many steps: %d bytes", len(got))
	}
	long.Steps = slices.Repeat([]api.Step{name("n")}, 1<<20)
	if _, ok := path.Put(long, object(), text("end")); !ok {
		t.Error("Put of very many steps")
	}
	if _, ok := path.Get(long, v, api.Value{}); ok {
		t.Error("Get of very many steps")
	}
}
