package def_test

import (
	"strings"
	"sync"
	"testing"

	"voyage/api"
	"voyage/def"
	"voyage/rule"
)

// operand is an operator as the document tells it: its number, and what it has behind it.
type operand struct {
	number int
	kind   string
}

// operands is written here once more, so that what the program says of its own operators counts for nothing.
var operands = sync.OnceValue(func() map[string]operand {
	all := map[string]operand{"And": {1, "rules"}, "Or": {2, "rules"}, "Not": {3, "rule"}, "StringMatches": {14, "text"}}
	for first, x := range map[int]struct{ word, kind string }{4: {"String", "text"}, 15: {"Numeric", "number"}, 25: {"Boolean", "truth"}, 27: {"Timestamp", "moment"}} {
		for i, relation := range []string{"Equals", "LessThan", "GreaterThan", "LessThanEquals", "GreaterThanEquals"} {
			if i > 0 && x.word == "Boolean" {
				break
			}
			all[x.word+relation] = operand{first + 2*i, x.kind}
			all[x.word+relation+"Path"] = operand{first + 2*i + 1, "path"}
		}
	}
	for i, word := range []string{"Null", "Present", "Numeric", "String", "Boolean", "Timestamp"} {
		all["Is"+word] = operand{37 + i, "truth"}
	}
	return all
})

// samples are texts of values that are of a kind, and such as aren't, with their errors.
func samples(kind string) (good []string, bad map[string]error) {
	moment := `"2020-01-01T00:00:00+00:30"`
	switch kind {
	case "text":
		return []string{`""`, `"x"`, moment}, map[string]error{`null`: api.ErrKind, `1`: api.ErrKind, `true`: api.ErrKind, `["x"]`: api.ErrKind, `{}`: api.ErrKind}
	case "number":
		return []string{`0`, `-1.5e-9`, `1e9999`}, map[string]error{`null`: api.ErrKind, `"1"`: api.ErrKind, `false`: api.ErrKind, `[1]`: api.ErrKind, `{}`: api.ErrKind}
	case "truth":
		return []string{`true`, `false`}, map[string]error{`null`: api.ErrKind, `"true"`: api.ErrKind, `1`: api.ErrKind, `[]`: api.ErrKind, `{}`: api.ErrKind}
	case "moment":
		return []string{moment, `"0000-01-01T00:00:00Z"`}, map[string]error{`null`: api.ErrKind, `1`: api.ErrKind, `"x"`: api.ErrTime, `""`: api.ErrTime, `["x"]`: api.ErrKind, `"0000-01-01T00:00:00+00:01"`: api.ErrTime}
	case "path":
		return []string{`"$"`, `"$$.a[-1]"`}, map[string]error{`null`: api.ErrKind, `1`: api.ErrKind, `"x"`: api.ErrPath, `""`: api.ErrPath, `["$"]`: api.ErrKind}
	case "rules":
		return nil, map[string]error{`null`: api.ErrKind, `{}`: api.ErrKind, `"x"`: api.ErrKind, `{"Variable": "$", "IsNull": true}`: api.ErrKind}
	}
	return nil, map[string]error{`null`: api.ErrKind, `[]`: api.ErrKind, `"x"`: api.ErrKind, `[{"Variable": "$", "IsNull": true}]`: api.ErrKind, `{}`: api.ErrLacks}
}

// P8.1: every operator has its number, and what stands behind it.
func TestOperators(t *testing.T) {
	all := operands()
	if len(all) != 42 {
		t.Fatal(len(all))
	}
	for name, o := range all {
		if rule.Names()[o.number] != name {
			t.Errorf("%s: %d", name, o.number)
		}
		good, bad := samples(o.kind)
		for _, s := range good {
			want := api.Rule{Op: o.number, Next: "b", Var: at("$.v")}
			if o.kind == "path" {
				want.At = at(value(s).Text)
			} else {
				want.With = value(s)
			}
			choice := `{"Next": "b", "Variable": "$.v", "` + name + `": ` + s + `}`
			inner := want
			inner.Next = ""
			within := `{"Variable": "$.v", "` + name + `": ` + s + `}`
			readsState(t, `{"Type": "Choice", "Choices": [`+choice+`]}`, api.State{Type: api.Choice, Rules: []api.Rule{want}})
			for op, w := range map[string]api.Rule{`"And": [` + within + `]`: {Op: 1}, `"Or": [` + within + `]`: {Op: 2}, `"Not": ` + within: {Op: 3}} {
				w.Next, w.All = "b", []api.Rule{inner}
				readsState(t, `{"Type": "Choice", "Choices": [{"Next": "b", `+op+`}]}`, api.State{Type: api.Choice, Rules: []api.Rule{w}})
			}
		}
		for s, err := range bad {
			rulesFault(t, []wrong{
				{`[{"Next": "b", "` + name + `": ` + s + `}]`, "[0]." + name, err},
				{`[{"` + name + `": ` + s + `, "z": 1}]`, "[0]." + name, err},
				{`[{"Next": "b", "Not": {"` + name + `": ` + s + `}}]`, "[0].Not." + name, err},
				{`[{"Next": "b", "Or": [{"And": []}, {"` + name + `": ` + s + `}]}]`, "[0].Or[1]." + name, err},
			})
		}
	}
}

// ruleOf is what a rule of an operator has beside its Next.
func ruleOf(name string) string {
	switch o := operands()[name]; o.kind {
	case "rules":
		return `"` + name + `": []`
	case "rule":
		return `"` + name + `": {"Or": []}`
	default:
		good, _ := samples(o.kind)
		return `"Variable": "$", "` + name + `": ` + good[0]
	}
}

// P8.1: of two operators the first one, by names, counts, and the second one may not be there, whatever it has.
func TestTwoOperators(t *testing.T) {
	for name := range operands() {
		for other := range operands() {
			if other <= name {
				continue
			}
			for _, second := range []string{`null`, `[]`, `true`} {
				two := `{"` + other + `": ` + second + `, ` + ruleOf(name) + `}`
				rulesFault(t, []wrong{{`[` + two + `]`, "[0]." + other, api.ErrField}, {`[{"Not": ` + two + `}]`, "[0].Not." + other, api.ErrField}})
			}
		}
	}
	rulesFault(t, []wrong{
		{`[{"Next": "b", "IsNull": 1, "StringEquals": 1}]`, "[0].IsNull", api.ErrKind},
		{`[{"Next": "", "IsNull": true, "StringEquals": 1}]`, "[0].Next", api.ErrRange},
		{`[{"IsNull": true, "Not": {}, "Or": 1, "And": [{}]}]`, "[0].And[0]", api.ErrLacks},
		{`[{"IsNull": true, "Not": {}, "Or": 1, "And": []}]`, "[0].IsNull", api.ErrField},
		{`[{"IsNull": true, "Not": {}, "Or": 1, "Variable": "$"}]`, "[0].Not", api.ErrField},
	})
}

// P8.1: Variable must be there, and may not at And, Or and Not.
func TestVariable(t *testing.T) {
	for name, o := range operands() {
		own := ruleOf(name)
		if o.number <= 3 {
			for _, v := range []string{`"$"`, `1`, `null`, `""`} {
				rulesFault(t, []wrong{{`[{"Variable": ` + v + `, ` + own + `}]`, "[0].Variable", api.ErrField}, {`[{"Next": "b", "Variable": ` + v + `, ` + own + `}]`, "[0].Variable", api.ErrField}})
			}
			continue
		}
		without := strings.Replace(own, `"Variable": "$", `, "", 1)
		rulesFault(t, []wrong{
			{`[{"Next": "b", ` + without + `}]`, "[0].Variable", api.ErrLacks},
			{`[{` + without + `}]`, "[0].Next", api.ErrLacks},
			{`[{"Next": "b", "Not": {` + without + `}}]`, "[0].Not.Variable", api.ErrLacks},
			{`[{"Next": "b", "Variable": 1, ` + without + `}]`, "[0].Variable", api.ErrKind},
			{`[{"Next": "b", "Variable": "x", ` + without + `}]`, "[0].Variable", api.ErrPath},
		})
	}
}

// P8.1: what is missing of a rule, and what it may not have.
func TestRuleFaults(t *testing.T) {
	rulesFault(t, []wrong{
		{`{}`, "", api.ErrKind}, {`null`, "", api.ErrKind}, {`"x"`, "", api.ErrKind},
		{`[1]`, "[0]", api.ErrKind}, {`[[]]`, "[0]", api.ErrKind}, {`[null]`, "[0]", api.ErrKind},
		{`[{}]`, "[0].Next", api.ErrLacks},
		{`[{"Variable": "$"}]`, "[0].Next", api.ErrLacks},
		{`[{"Next": "b", "Variable": "$"}]`, "[0]", api.ErrLacks},
		{`[{"Next": "b", "And": []}, {"Next": "b"}]`, "[1]", api.ErrLacks},
		{`[{"Next": "b", "Variable": 1}]`, "[0].Variable", api.ErrKind},
		{`[{"Next": "", "And": []}]`, "[0].Next", api.ErrRange},
		{`[{"Next": 1, "And": []}]`, "[0].Next", api.ErrKind},
		{`[{"Next": "b", "And": [], "Comment": "c"}]`, "[0].Comment", api.ErrField},
		{`[{"Next": "b", "And": [], "": 1}]`, "[0]['']", api.ErrField},
		{`[{"Next": "b", "": 1}]`, "[0]['']", api.ErrField},
		{`[{"Next": "b", "Variable": "$", "StringMatchesPath": "$"}]`, "[0].StringMatchesPath", api.ErrField},
		{`[{"Next": "b", "Variable": "$", "IsNullPath": "$"}]`, "[0].IsNullPath", api.ErrField},
		{`[{"Next": "b", "Variable": "$", "BooleanLessThan": true}]`, "[0].BooleanLessThan", api.ErrField},
		{`[{"Next": "b", "Variable": "$", "numericEquals": 1}]`, "[0].numericEquals", api.ErrField},
		{`[{"Next": "b", "And": [{"Next": "c", "Or": []}]}]`, "[0].And[0].Next", api.ErrField},
		{`[{"Next": "b", "Not": {"Next": "c", "Or": []}}]`, "[0].Not.Next", api.ErrField},
		{`[{"Next": "b", "Not": {"And": [{"Or": [{"Next": 1}]}]}}]`, "[0].Not.And[0].Or[0].Next", api.ErrField},
		{`[{"Next": "b", "Not": {}}]`, "[0].Not", api.ErrLacks},
		{`[{"Not": {}}]`, "[0].Not", api.ErrLacks},
		{`[{"Not": {"Variable": "$"}}]`, "[0].Not", api.ErrLacks},
		{`[{"Not": {"Variable": "$", "IsNull": true}}]`, "[0].Next", api.ErrLacks},
		{`[{"Next": "b", "And": [{"Not": {"Or": []}}, {}]}]`, "[0].And[1]", api.ErrLacks},
		{`[{"Next": "b", "And": [{"Not": {"Or": []}}, 7]}]`, "[0].And[1]", api.ErrKind},
		{`[{"Next": "b", "Or": [{"Comment": "c", "Or": []}]}]`, "[0].Or[0].Comment", api.ErrField},
	})
	m, err := def.Read(value(choosing(`[{"Next": "b", "Or": [{"And": [{"Not": {"Or": [{"Variable": "$", "IsNull": true}]}}, {"Or": []}]}]}]`)))
	inner := api.Rule{Op: 3, All: []api.Rule{{Op: 2, All: []api.Rule{{Op: 37, Var: at("$"), With: truth(true)}}}}}
	if want := (api.Rule{Op: 2, Next: "b", All: []api.Rule{{Op: 1, All: []api.Rule{inner, {Op: 2}}}}}); err != nil || !alike(m.States[0].Rules, []api.Rule{want}) {
		t.Errorf("%+v, %v", m, err)
	}
}
