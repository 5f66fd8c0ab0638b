package rule_test

import (
	"math"
	"reflect"
	"slices"
	"strings"
	"testing"

	"voyage/api"
	"voyage/json"
	"voyage/path"
	"voyage/rule"
)

func null() api.Value                       { return api.Value{} }
func truth(b bool) api.Value                { return api.Value{Kind: api.Truth, Truth: b} }
func text(s string) api.Value               { return api.Value{Kind: api.Text, Text: s} }
func list(v ...api.Value) api.Value         { return api.Value{Kind: api.List, List: v} }
func object(f ...api.Field) api.Value       { return api.Value{Kind: api.Object, Fields: f} }
func field(n string, v api.Value) api.Field { return api.Field{Name: n, Value: v} }

// number is told as it stands: no one form is made of it.
func number(digits string, exp int) api.Value {
	return api.Value{Kind: api.Number, Num: api.Dec{Digits: digits, Exp: exp}}
}

// below is the same number below nought.
func below(v api.Value) api.Value {
	v.Num.Neg = true
	return v
}

// value is that of a text.
func value(s string) api.Value {
	v, err := json.Parse(s)
	if err != nil {
		panic(s)
	}
	return v
}

// at is the path of a text.
func at(s string) api.Path {
	p, err := path.Parse(s)
	if err != nil {
		panic(s)
	}
	return p
}

// nothing is the null path.
func nothing() api.Path { return api.Path{Nothing: true} }

// table tells the operators as the document does: it is written here once more, so that what the program says of its own names counts for nothing.
func table() []string {
	return []string{
		"", "And", "Or", "Not",
		"StringEquals", "StringEqualsPath", "StringLessThan", "StringLessThanPath", "StringGreaterThan", "StringGreaterThanPath", "StringLessThanEquals", "StringLessThanEqualsPath", "StringGreaterThanEquals", "StringGreaterThanEqualsPath",
		"StringMatches",
		"NumericEquals", "NumericEqualsPath", "NumericLessThan", "NumericLessThanPath", "NumericGreaterThan", "NumericGreaterThanPath", "NumericLessThanEquals", "NumericLessThanEqualsPath", "NumericGreaterThanEquals", "NumericGreaterThanEqualsPath",
		"BooleanEquals", "BooleanEqualsPath",
		"TimestampEquals", "TimestampEqualsPath", "TimestampLessThan", "TimestampLessThanPath", "TimestampGreaterThan", "TimestampGreaterThanPath", "TimestampLessThanEquals", "TimestampLessThanEqualsPath", "TimestampGreaterThanEquals", "TimestampGreaterThanEqualsPath",
		"IsNull", "IsPresent", "IsNumeric", "IsString", "IsBoolean", "IsTimestamp",
	}
}

// op is an operator's number.
func op(name string) int {
	i := slices.Index(table(), name)
	if i < 1 {
		panic(name)
	}
	return i
}

// compares is a rule whose other side is a value.
func compares(name, where string, with api.Value) api.Rule {
	return api.Rule{Op: op(name), Var: at(where), With: with}
}

// r is a rule: behind its path a value's text, or, of an operator with Path, a path's.
func r(name, where, other string) api.Rule {
	if strings.HasSuffix(name, "Path") {
		return api.Rule{Op: op(name), Var: at(where), At: at(other)}
	}
	return compares(name, where, value(other))
}

func and(l ...api.Rule) api.Rule { return api.Rule{Op: 1, All: l} }
func or(l ...api.Rule) api.Rule  { return api.Rule{Op: 2, All: l} }
func not(l ...api.Rule) api.Rule { return api.Rule{Op: 3, All: l} }

const (
	exampleInput   = `{"n": 3, "t": "abc", "d": "2020-01-01T00:00:00Z", "z": null, "b": true, "m": 3.0}`
	exampleContext = `{"n": 4, "t": "abd", "d": "2020-01-01T00:00:00.5+00:00", "b": false, "l": [[1], {"x": "y"}]}`
)

// answers wants what a rule answers: whether it holds, or an error, itself, and false beside it.
func answers(t *testing.T, r api.Rule, want bool, wrong error) {
	t.Helper()
	holds, err := rule.Eval(r, value(exampleInput), value(exampleContext))
	if holds != want || err != wrong {
		t.Errorf("Eval(%.500v): %v, %v, want %v, %v", r, holds, err, want, wrong)
	}
}

func holds(t *testing.T, rules ...api.Rule) {
	t.Helper()
	for _, r := range rules {
		answers(t, r, true, nil)
	}
}

func holdsNot(t *testing.T, rules ...api.Rule) {
	t.Helper()
	for _, r := range rules {
		answers(t, r, false, nil)
	}
}

func errs(t *testing.T, wrong error, rules ...api.Rule) {
	t.Helper()
	for _, r := range rules {
		answers(t, r, false, wrong)
	}
}

// P7.1
func TestNames(t *testing.T) {
	got := rule.Names()
	if len(got) != 43 || !slices.Equal(got, table()) {
		t.Fatalf("Names: %q", got)
	}
	for i := range got { // what is answered is new memory
		got[i] = "changed"
	}
	spare := got[:cap(got)]
	for i := range spare {
		spare[i] = "changed"
	}
	if again := rule.Names(); !slices.Equal(again, table()) {
		t.Errorf("Names, changed and asked again: %q", again)
	}
}

// The chapter's examples.
func TestExamples(t *testing.T) {
	holds(t, r("NumericEquals", "$.n", `3`), r("NumericEqualsPath", "$.n", "$.m"))
	holdsNot(t, r("NumericLessThan", "$.n", `3`), r("NumericLessThan", "$.t", `3`))
	errs(t, api.ErrKind, r("NumericLessThan", "$.n", `"3"`))

	holds(t, r("StringLessThan", "$.t", `"abd"`), r("StringMatches", "$.t", `"a*"`))
	holdsNot(t, r("StringEquals", "$.n", `"3"`), r("StringMatches", "$.t", `"*b"`))
	errs(t, api.ErrPath, r("StringEqualsPath", "$.t", "$.q"))
	errs(t, api.ErrKind, r("StringEqualsPath", "$.t", "$.n"))

	holds(t, r("TimestampEquals", "$.d", `"2020-01-01T01:00:00+01:00"`))
	holdsNot(t, r("TimestampLessThan", "$.t", `"2020-01-01T00:00:00Z"`))
	errs(t, api.ErrKind, r("TimestampEquals", "$.d", `"now"`))

	missing, isNull := r("IsPresent", "$.q", `true`), r("IsNull", "$.q", `true`)
	holdsNot(t, missing)
	holds(t, r("IsPresent", "$.q", `false`), r("IsPresent", "$.z", `true`), r("IsNull", "$.z", `true`))
	errs(t, api.ErrPath, isNull)
	holds(t, r("IsNumeric", "$.t", `false`), r("IsTimestamp", "$.d", `true`))

	holdsNot(t, and(missing, isNull))
	errs(t, api.ErrPath, and(isNull, missing))
	holds(t, and())
	holdsNot(t, or())
	errs(t, api.ErrKind, not(), api.Rule{Op: 43})
}

// P7.3: And, Or, Not.
func TestRulesOfRules(t *testing.T) {
	yes, no, lost, bad := r("IsNull", "$.z", `true`), r("IsNull", "$.z", `false`), r("IsNull", "$.q", `true`), r("IsNull", "$.z", `1`)
	holds(t, yes)
	holdsNot(t, no)
	errs(t, api.ErrPath, lost)
	errs(t, api.ErrKind, bad)

	holds(t, and(yes), and(yes, yes), and(yes, yes, yes), and(and()), and(yes, and(yes, or(no, yes))))
	holdsNot(t, and(no), and(yes, no), and(no, yes), and(yes, no, yes), and(yes, yes, no), and(or()), and(yes, or()))
	holdsNot(t, and(no, lost), and(no, bad), and(yes, no, lost), and(no, yes, bad), and(or(), lost), and(no, not()), and(no, api.Rule{Op: 99}))
	errs(t, api.ErrPath, and(lost), and(lost, no), and(yes, lost), and(yes, lost, no), and(lost, bad), and(yes, yes, lost, bad, no), and(yes, and(yes, lost)))
	errs(t, api.ErrKind, and(bad), and(bad, no), and(yes, bad), and(bad, lost), and(yes, bad, lost), and(and(), bad), and(not(), no), and(yes, or(no, bad)))

	holds(t, or(yes), or(no, yes), or(yes, no), or(no, yes, no), or(no, no, yes), or(and()), or(no, and()))
	holdsNot(t, or(no), or(no, no), or(no, no, no), or(or()), or(or(), no, or(no)))
	holds(t, or(yes, lost), or(yes, bad), or(no, yes, lost), or(yes, no, bad), or(and(), lost), or(yes, not()), or(yes, api.Rule{Op: 99}))
	errs(t, api.ErrPath, or(lost), or(lost, yes), or(no, lost), or(no, lost, yes), or(lost, bad), or(no, no, lost, bad, yes), or(no, or(no, lost)))
	errs(t, api.ErrKind, or(bad), or(bad, yes), or(no, bad), or(bad, lost), or(no, bad, lost), or(or(), bad), or(not(), yes), or(no, and(yes, bad)))

	holds(t, not(no), not(not(yes)), not(or()), not(and(yes, no)), not(and(no, lost)))
	holdsNot(t, not(yes), not(not(no)), not(and()), not(or(no, yes)), not(or(yes, bad)))
	errs(t, api.ErrPath, not(lost), not(not(lost)), not(and(yes, lost)), not(or(no, lost)))
	errs(t, api.ErrKind, not(bad), not(not(bad)), not(not()), not(api.Rule{Op: 43}), not(api.Rule{}))
	errs(t, api.ErrKind, not(yes, yes), not(no, no), not(no, yes), not(lost, lost), not(lost, yes), not(yes, lost), not(no, no, no), not(not(no, no)))

	for _, o := range []int{1, 2, 3} { // nil and no rules are the same
		want := []bool{false, true, false, false}[o]
		got, err := rule.Eval(api.Rule{Op: o, All: []api.Rule{}}, null(), null())
		if got != want || (err == api.ErrKind) != (o == 3) {
			t.Errorf("operator %d of no rules: %v, %v", o, got, err)
		}
	}
}

// P7.3: numbers that are no operators, at whatever depth, and whatever stands beside them.
func TestNoOperators(t *testing.T) {
	for _, n := range []int{0, -1, -2, -3, -14, -42, -43, 43, 44, 45, 64, 85, 100, 128, 256, 257, 1 << 16, 1<<32 + 1, math.MaxInt, math.MaxInt - 1, math.MinInt, math.MinInt + 4} {
		for _, p := range []string{"$", "$.n", "$.q", "$$.q"} {
			x := api.Rule{Op: n, Var: at(p), With: truth(true), At: at(p), All: []api.Rule{and()}, Next: "x"}
			errs(t, api.ErrKind, x, not(x), and(x), or(x), and(and(), x), or(or(), x))
			holds(t, or(and(), x))
			holdsNot(t, and(or(), x))
		}
	}
}

// P7.3: a rule within as many others as there may be.
func TestDeepRules(t *testing.T) {
	const most = 1 << 16
	nots, ands, ors := and(), and(), and()
	for range most {
		nots, ands, ors = not(nots), and(ands), or(ors)
	}
	holds(t, nots, ands, ors)
	holdsNot(t, not(nots))
	wide := make([]api.Rule, most)
	for i := range wide {
		wide[i] = and()
	}
	holds(t, and(wide...), or(wide...))
	wide[most-1] = or()
	holdsNot(t, and(wide...))
	holdsNot(t, and(wide[most-1:]...))
}

// P7.3: from the paths first: an error of Var comes ahead of one of the other side.
func TestFirstError(t *testing.T) {
	for i, name := range table() {
		if i < 4 || name == "IsPresent" {
			continue
		}
		for _, with := range []api.Value{null(), list(), {Kind: 9}, truth(true), text("x"), number("1", 0)} {
			for _, other := range []string{"$.n", "$.q", "$.z", "$"} {
				for _, lost := range []string{"$.q", "$.n.x", "$[0]", "$$.q", "$$.l[2]", "$.t[0]"} {
					errs(t, api.ErrPath, api.Rule{Op: i, Var: at(lost), With: with, At: at(other)})
				}
			}
		}
		if strings.HasSuffix(name, "Path") { // the value is of no kind that can be compared, but that is asked last
			errs(t, api.ErrPath, r(name, "$.z", "$.q"), r(name, "$.n", "$$.l[2]"), r(name, "$", "$.t.x"), r(name, "$$.l", "$[0]"))
			errs(t, api.ErrKind, r(name, "$.z", "$.z"), r(name, "$", "$$.l"), r(name, "$$.l", "$"), api.Rule{Op: i, Var: at("$.z"), At: nothing()})
		} else {
			errs(t, api.ErrKind, r(name, "$.z", `null`), r(name, "$", `[]`), r(name, "$$.l", `{}`), compares(name, "$.z", api.Value{Kind: -1, Truth: true, Text: "2020-01-01T00:00:00Z"}))
		}
	}
}

// samples are values that mean something to the operators, by kind, rising; the same stands beside what is equal. Each is told in its own way.
func samples() map[string][][]api.Value {
	marked := func(v api.Value) api.Value { // what its kind doesn't name doesn't count
		m := api.Value{Kind: v.Kind, Truth: true, Num: api.Dec{Neg: true, Digits: "7"}, Text: "2020-01-01T00:00:00Z", List: []api.Value{null()}, Fields: []api.Field{field("x", null())}}
		switch v.Kind {
		case api.Truth:
			m.Truth = v.Truth
		case api.Number:
			m.Num = v.Num
		case api.Text:
			m.Text = v.Text
		}
		return m
	}
	moment := "2020-01-01T00:00:00"
	return map[string][][]api.Value{
		"String": {
			{text(""), marked(text(""))}, {text("\x00")}, {text(" ")}, {text("3")}, {text("A")}, {text("\\")}, {text("a")}, {text("ab")}, {text("abc"), marked(text("abc"))}, {text("abd")}, {text("b")}, {text("é"), text("\u00e9")}, {text("\ud7ff")},
			{text("\uff00")}, {text("\ufffd"), text("\xff"), text("\x80"), text("\xed"), marked(text("\xc0"))}, {text("\ufffd\ufffd"), text("\xff\xfe"), text("\xe2\x82"), text("\ufffd\x80")}, {text("\uffff")}, {text("\U0001f600")},
		},
		"Numeric": {
			{below(number("1", 9999))}, {below(number("12", 0)), below(number("0120", -1))}, {below(number("1", 0))}, {below(number("1", -9999))},
			{number("", 0), number("0", 3), below(number("00", -5)), number("1", 10000), number("xyz", 1), number("10", 9999), marked(number("", 0))},
			{number("1", -9999), number("10", -10000)}, {number("29", -1), number("2x9", -1)}, {number("3", 0), number("30", -1), number("0003", 0), number("3000000000000000000000000", -24), marked(number("3", 0))}, {number("31", -1)}, {number("9007199254740992", 0)}, {number("9007199254740993", 0)}, {number("18446744073709551616", 0)}, {number("9", 9998)}, {number("1", 9999)},
		},
		"Timestamp": {
			{text("0000-01-01T00:00:00+00:01")}, {text("0000-01-01T00:00:00Z")}, {text("2019-12-31T23:59:59.999999999Z"), text("2020-01-01T00:59:59.999999999+01:00")},
			{text(moment + "Z"), text(moment + ".0Z"), text(moment + "+00:00"), text(moment + "-00:00"), text("2020-01-01T01:00:00+01:00"), text("2019-12-31T12:00:00.000-12:00"), marked(text(moment + "Z"))},
			{text(moment + ".000000001Z")}, {text(moment + ".1Z"), text(moment + ".10Z")}, {text("2020-01-01T00:00:01Z")}, {text("2020-01-01T00:30:00Z"), text("2020-01-01T01:00:00+00:30")}, {text("9999-12-31T23:59:59Z")}, {text("9999-12-31T23:59:59-23:59")},
		},
	}
}

// asked asks an operator, with Path and without it; the value and the other side stand beside each other in the input, or one of them in the context.
func asked(t *testing.T, name string, v, other api.Value) (bool, error) {
	t.Helper()
	in := object(field("o", other), field("v", v))
	got, err := rule.Eval(compares(name, "$.v", other), in, null())
	if slices.Contains(table(), name+"Path") {
		for i, x := range []struct{ in, ctx api.Value }{{in, null()}, {object(field("v", v)), object(field("o", other))}} {
			r := api.Rule{Op: op(name + "Path"), Var: at("$.v"), At: at([]string{"$.o", "$$.o"}[i]), With: list()}
			if again, wrong := rule.Eval(r, x.in, x.ctx); again != got || wrong != err {
				t.Errorf("%s of %v and %v: %v, %v; with Path: %v, %v", name, v, other, got, err, again, wrong)
			}
		}
	}
	return got, err
}

// P7.4: each comparison, its operands less than each other, equal and greater. P7.7: just one of less, equal, greater; less or equal is less, or equal.
func TestComparisons(t *testing.T) {
	for kind, classes := range samples() {
		for i, x := range classes {
			for j, y := range classes {
				for _, v := range x {
					for _, other := range y {
						for name, want := range map[string]bool{"Equals": i == j, "LessThan": i < j, "GreaterThan": i > j, "LessThanEquals": i <= j, "GreaterThanEquals": i >= j} {
							if got, err := asked(t, kind+name, v, other); got != want || err != nil {
								t.Errorf("%s%s of %v and %v: %v, %v", kind, name, v, other, got, err)
							}
						}
					}
				}
			}
		}
	}
}

// P7.4: truths.
func TestTruths(t *testing.T) {
	for _, a := range []bool{false, true} {
		for _, b := range []bool{false, true} {
			for _, other := range []api.Value{truth(b), {Kind: api.Truth, Truth: b, Text: "true", Num: api.Dec{Digits: "1"}, List: []api.Value{truth(!b)}}} {
				if got, err := asked(t, "BooleanEquals", truth(a), other); got != (a == b) || err != nil {
					t.Errorf("BooleanEquals of %v and %v: %v, %v", a, other, got, err)
				}
			}
		}
	}
}

// strangers are values that are not of a kind.
func strangers(kind string) []api.Value {
	out := []api.Value{null(), {Kind: 9, Truth: true, Text: "2020-01-01T00:00:00Z", Num: api.Dec{Digits: "3"}}, {Kind: -1}, list(), list(text("a")), list(truth(true)), list(number("3", 0)), object(), object(field("a", text("a")))}
	if kind != "String" && kind != "Timestamp" {
		out = append(out, text("3"), text("true"), text(""), text("2020-01-01T00:00:00Z"))
	}
	if kind == "Timestamp" {
		out = append(out, text("now"), text(""), text("2020-01-01"), text("2020-01-01T00:00:00"), text("2023-02-29T00:00:00Z"), text("2020-01-01T00:00:00Z\xff"), text(" 2020-01-01T00:00:00Z"))
	}
	if kind != "Numeric" {
		out = append(out, number("3", 0), number("", 0), number("1", 0))
	}
	if kind != "Boolean" {
		out = append(out, truth(true), truth(false))
	}
	return out
}

// P7.4: an other side of another kind has ErrKind, whatever the value; a value of another kind doesn't compare.
func TestOtherKinds(t *testing.T) {
	good := map[string]api.Value{"String": text("a"), "Numeric": number("3", 0), "Boolean": truth(true), "Timestamp": text("2020-01-01T00:00:00Z")}
	for _, name := range table()[4:37] {
		if strings.HasSuffix(name, "Path") {
			continue
		}
		kind := name[:strings.IndexAny(name[1:], "ELGM")+1]
		if good[kind].Kind == api.Null {
			t.Fatal(name)
		}
		for _, odd := range strangers(kind) {
			if got, err := asked(t, name, odd, good[kind]); got || err != nil {
				t.Errorf("%s of %v: %v, %v", name, odd, got, err)
			}
			for _, v := range append(strangers(kind), good[kind]) {
				if got, err := asked(t, name, v, odd); got || err != api.ErrKind {
					t.Errorf("%s of %v and %v: %v, %v", name, v, odd, got, err)
				}
			}
		}
	}
}

// P7.4: StringMatches; texts go by what they say, and patterns too.
func TestStringMatches(t *testing.T) {
	for _, x := range []struct {
		pattern, s string
		want       bool
	}{
		{"a*", "abc", true}, {"*b", "abc", false}, {"abc", "abc", true}, {"*", "", true}, {"", "", true}, {"", "a", false}, {`\*`, "*", true}, {`\*`, "a", false}, {`\\`, `\`, true}, {`\a`, `\a`, true}, {`\`, `\`, true},
		{"\xff", "\ufffd", true}, {"\ufffd", "\xff", true}, {"\x80", "\xff", true}, {"*\xff", "a\x80", true}, {"\xff*\xff", "\xfe", false}, {"\xff*\xff", "\xfe\xfd", true}, {"\\\xff", "\\\x80", true}, {"\xff", "a", false}, {"\xc3*\xa9", "é", false}, {"é", "é", true}, {"*\xa9", "é", false}, {"\ufffd*", "\xe2\x82", true}, {"\xe2\x82", "\ufffd", false}, {"\xe2*", "\xe2\x82\xac", false},
	} {
		if got, err := asked(t, "StringMatches", text(x.s), text(x.pattern)); got != x.want || err != nil {
			t.Errorf("StringMatches of %q and %q: %v, %v", x.s, x.pattern, got, err)
		}
	}
}

// P7.5
func TestKinds(t *testing.T) {
	kinds := map[string][]api.Value{
		"IsNull":    {null(), {Kind: 9}, {Kind: -1, Text: "x", Truth: true}, {Kind: 6}},
		"IsNumeric": {number("", 0), number("3", 0), below(number("15", -1)), number("1", 10000)},
		"IsString":  {text(""), text("null"), text("3"), text("\xff"), text("now"), text("2023-02-29T00:00:00Z"), text("2020-01-01T00:00:00z")},
		"IsBoolean": {truth(true), truth(false)},
		"":          {list(), list(null()), object(), object(field("a", text("2020-01-01T00:00:00Z"))), {Kind: api.List, Text: "2020-01-01T00:00:00Z"}},
		"moment":    {text("2020-01-01T00:00:00Z"), text("0000-01-01T00:00:00+23:59"), text("2024-02-29T23:59:59.123456789-00:00")},
	}
	for kind, values := range kinds {
		for _, v := range values {
			for _, name := range []string{"IsNull", "IsNumeric", "IsString", "IsBoolean", "IsTimestamp"} {
				is := kind == name || kind == "moment" && (name == "IsString" || name == "IsTimestamp")
				for _, with := range []bool{true, false} {
					for _, odd := range []api.Value{truth(with), {Kind: api.Truth, Truth: with, Text: "x", List: []api.Value{truth(!with)}}} {
						if got, err := asked(t, name, v, odd); got != (is == with) || err != nil {
							t.Errorf("%s of %v, %v: %v, %v", name, v, with, got, err)
						}
					}
				}
				for _, no := range strangers("Boolean") {
					if got, err := asked(t, name, v, no); got || err != api.ErrKind {
						t.Errorf("%s of %v, %v: %v, %v", name, v, no, got, err)
					}
				}
			}
		}
	}
	for _, name := range []string{"IsNull", "IsNumeric", "IsString", "IsBoolean", "IsTimestamp"} {
		errs(t, api.ErrPath, r(name, "$.q", `true`), r(name, "$.q", `false`), r(name, "$.q", `null`), r(name, "$$.z", `true`), r(name, "$.t.x", `1`))
	}
}

// P7.6
func TestIsPresent(t *testing.T) {
	for p, want := range map[string]bool{"$": true, "$$": true, "$.z": true, "$.n": true, "$$.n": true, "$$.l": true, "$$.l[0]": true, "$$.l[-1]": true, "$$.l[1].x": true, "$$.l[0][0]": true, "$.q": false, "$$.z": false, "$.l": false, "$[0]": false, "$$.l[2]": false, "$$.l[-3]": false, "$.t[0]": false, "$.t.x": false, "$.z.x": false, "$['']": false} {
		answers(t, r("IsPresent", p, `true`), want, nil)
		answers(t, r("IsPresent", p, `false`), !want, nil)
		for _, no := range strangers("Boolean") {
			errs(t, api.ErrKind, compares("IsPresent", p, no))
		}
	}
	holds(t, api.Rule{Op: 38, Var: nothing(), With: truth(true)})
	holdsNot(t, api.Rule{Op: 38, Var: nothing(), With: truth(false)})
}

// P7.3 to P7.6: paths of any form: null ones, such as aren't set, places from a list's end, names that are no UTF-8.
func TestPaths(t *testing.T) {
	holds(t, api.Rule{Op: op("IsNull"), Var: nothing(), With: truth(true)})
	errs(t, api.ErrKind, api.Rule{Op: op("NumericEqualsPath"), Var: at("$.n"), At: nothing()})
	holdsNot(t, api.Rule{Op: op("NumericEquals"), Var: nothing(), With: number("", 0)})
	holds(t, api.Rule{Op: op("NumericEqualsPath"), Var: api.Path{Steps: []api.Step{{Name: "n", Place: 7}}}, At: api.Path{Steps: []api.Step{{Name: "m"}}}})
	holds(t, r("NumericEquals", "$$.l[0][-1]", `1`), r("StringEqualsPath", "$$.l[-1].x", "$$.l[1]['x']"), r("NumericLessThanPath", "$.n", "$$.n"), r("StringLessThanPath", "$.t", "$$.t"), r("TimestampLessThanPath", "$.d", "$$.d"), r("TimestampGreaterThanPath", "$$.d", "$.d"))
	holdsNot(t, r("BooleanEqualsPath", "$.b", "$$.b"), r("NumericGreaterThanPath", "$.n", "$$.n"), r("NumericEqualsPath", "$$.n", "$.n"))
	in := object(field("\xff", text("first")), field("\ufffd", text("second")))
	for _, name := range []string{"\xff", "\x80", "\ufffd"} {
		p := api.Path{Steps: []api.Step{{Name: name}}}
		for _, r := range []api.Rule{{Op: op("StringEquals"), Var: p, With: text("first")}, {Op: op("StringEqualsPath"), Var: p, At: p}} {
			if got, err := rule.Eval(r, in, null()); !got || err != nil {
				t.Errorf("%q: %v, %v", name, got, err)
			}
		}
	}
}

// What a rule's operator doesn't name isn't looked at.
func TestOtherFields(t *testing.T) {
	bad := []api.Rule{{Op: 99}, {}}
	yes := r("IsNull", "$.z", `true`)
	holds(t, api.Rule{Op: 1, Var: at("$.q"), At: at("$.q"), With: list(), Next: "x"})
	holds(t, api.Rule{Op: 2, All: []api.Rule{yes}, Var: at("$.q"), At: at("$.q"), With: list(), Next: "x"})
	holdsNot(t, api.Rule{Op: 3, All: []api.Rule{yes}, Var: at("$.q"), At: at("$.q"), With: list(), Next: "x"})
	for _, lost := range []string{"$.q", "$.z", "$$.q"} {
		holds(t, api.Rule{Op: op("NumericEquals"), Var: at("$.n"), With: number("3", 0), At: at(lost), All: bad, Next: "\xff"})
		holds(t, api.Rule{Op: op("StringMatches"), Var: at("$.t"), With: text("*"), At: at(lost), All: bad, Next: "y"})
		holds(t, api.Rule{Op: op("IsString"), Var: at("$.t"), With: truth(true), At: at(lost), All: bad, Next: "y"})
		holdsNot(t, api.Rule{Op: op("IsPresent"), Var: at("$.q"), With: truth(true), At: at("$.n"), All: bad, Next: "y"})
		holds(t, api.Rule{Op: op("IsPresent"), Var: at("$.n"), With: truth(true), At: at(lost), All: bad, Next: "y"})
	}
	for _, with := range []api.Value{null(), list(), text("x"), number("4", 0), truth(false)} {
		holds(t, api.Rule{Op: op("NumericEqualsPath"), Var: at("$.n"), At: at("$.m"), With: with, All: bad, Next: "y"})
		errs(t, api.ErrPath, api.Rule{Op: op("NumericEqualsPath"), Var: at("$.n"), At: at("$.q"), With: with, All: bad})
	}
}

// What is handed in is not changed.
func TestHandedIn(t *testing.T) {
	all := func() (api.Rule, api.Value, api.Value) {
		odd := object(field("b", number("030", -1)), field("a", text("\xff")), field("a", null()))
		with := text("\x80")
		return and(compares("StringEquals", "$.a", with), or(compares("IsNumeric", "$.a", truth(true)), r("StringEqualsPath", "$.a", "$$.a")), not(compares("NumericLessThan", "$.b", number("03", 0)))), odd, object(field("a", with))
	}
	r, in, ctx := all()
	if got, err := rule.Eval(r, in, ctx); !got || err != nil {
		t.Errorf("%v, %v", got, err)
	}
	r2, in2, ctx2 := all()
	if !reflect.DeepEqual(r, r2) || !reflect.DeepEqual(in, in2) || !reflect.DeepEqual(ctx, ctx2) {
		t.Errorf("changed: %v, %v, %v", r, in, ctx)
	}
}
