package rule_test

import (
	"math/big"
	"math/rand"
	"strings"
	"testing"
	"time"

	"voyage/api"
	"voyage/json"
	"voyage/path"
	"voyage/rule"
)

// answer is what the model says of a rule.
type answer struct {
	holds bool
	err   error
}

// side is a value as the model compares it: of one kind, or two (a moment is a text as well).
type side struct {
	text   *string
	number *big.Rat
	truth  *bool
	moment *time.Time
	null   bool
}

// sideOf reads a value by other means than the program's.
func sideOf(v api.Value) side {
	switch v.Kind {
	case api.Truth:
		return side{truth: &v.Truth}
	case api.Number:
		n, ok := new(big.Rat).SetString(json.Print(v))
		if !ok {
			panic(json.Print(v))
		}
		return side{number: n}
	case api.Text:
		s := string([]rune(v.Text))
		out := side{text: &s}
		if m, err := time.Parse(time.RFC3339Nano, s); err == nil { // of the texts that are made here it reads just the moments
			out.moment = &m
		}
		return out
	case api.List, api.Object:
		return side{}
	}
	return side{null: true}
}

// order holds two sides against each other as a kind does; false, if one of them isn't of it.
func order(kind string, a, b side) (int, bool) {
	switch {
	case kind == "String" && a.text != nil && b.text != nil:
		return strings.Compare(*a.text, *b.text), true
	case kind == "Numeric" && a.number != nil && b.number != nil:
		return a.number.Cmp(b.number), true
	case kind == "Boolean" && a.truth != nil && b.truth != nil && *a.truth == *b.truth:
		return 0, true
	case kind == "Boolean" && a.truth != nil && b.truth != nil:
		return 1, true
	case kind == "Timestamp" && a.moment != nil && b.moment != nil:
		return a.moment.Compare(*b.moment), true
	}
	return 0, false
}

// fits tells whether an order is as an operator's name behind its kind says.
func fits(relation string, order int) bool {
	switch relation {
	case "Equals":
		return order == 0
	case "LessThan":
		return order < 0
	case "GreaterThan":
		return order > 0
	case "LessThanEquals":
		return order <= 0
	case "GreaterThanEquals":
		return order >= 0
	}
	panic(relation)
}

// model is Eval by the operators' names.
func model(r api.Rule, input, ctx api.Value) answer {
	if r.Op < 1 || r.Op > 42 {
		return answer{err: api.ErrKind}
	}
	name := table()[r.Op]
	switch name {
	case "And", "Or", "Not":
		return modelOfRules(name, r.All, input, ctx)
	}
	v, there := path.Get(r.Var, input, ctx)
	if strings.HasPrefix(name, "Is") {
		return modelOfKinds(name, v, there, r.With)
	}
	if !there {
		return answer{err: api.ErrPath}
	}
	other := r.With
	short, byPath := strings.CutSuffix(name, "Path")
	if byPath {
		if other, there = path.Get(r.At, input, ctx); !there {
			return answer{err: api.ErrPath}
		}
	}
	return modelOfComparisons(short, sideOf(v), sideOf(other))
}

func modelOfRules(name string, all []api.Rule, input, ctx api.Value) answer {
	if name == "Not" && len(all) != 1 {
		return answer{err: api.ErrKind}
	}
	for _, r := range all {
		a := model(r, input, ctx)
		switch {
		case a.err != nil:
			return a
		case name == "Not":
			return answer{holds: !a.holds}
		case name == "And" && !a.holds, name == "Or" && a.holds:
			return a
		}
	}
	return answer{holds: name == "And"}
}

func modelOfKinds(name string, v api.Value, there bool, with api.Value) answer {
	is := there
	if name != "IsPresent" {
		if !there {
			return answer{err: api.ErrPath}
		}
		s := sideOf(v)
		is = map[string]bool{"IsNull": s.null, "IsNumeric": s.number != nil, "IsString": s.text != nil, "IsBoolean": s.truth != nil, "IsTimestamp": s.moment != nil}[name]
	}
	said := sideOf(with).truth
	if said == nil {
		return answer{err: api.ErrKind}
	}
	return answer{holds: is == *said}
}

func modelOfComparisons(name string, v, other side) answer {
	if name == "StringMatches" {
		if other.text == nil {
			return answer{err: api.ErrKind}
		}
		return answer{holds: v.text != nil && speaks(*other.text, *v.text)}
	}
	for _, kind := range []string{"String", "Numeric", "Boolean", "Timestamp"} {
		relation, ok := strings.CutPrefix(name, kind)
		if !ok {
			continue
		}
		if _, ok := order(kind, other, other); !ok {
			return answer{err: api.ErrKind}
		}
		o, ok := order(kind, v, other)
		return answer{holds: ok && fits(relation, o)}
	}
	panic(name)
}

// anyScalar is a value that the operators can compare, or none such; few of them, so that they meet.
func anyScalar(r *rand.Rand) api.Value {
	switch r.Intn(10) {
	case 0, 1, 2:
		return text([]string{"", "a", "ab", "abc", "b", "*", "a*", `\*`, "\xff", "\x80b", "\ufffd", "\U0001f600", "null"}[r.Intn(13)])
	case 3, 4:
		v := number([]string{"", "1", "10", "0100", "2", "20", "15", "x1"}[r.Intn(8)], r.Intn(4)-2)
		v.Num.Neg = r.Intn(4) == 0
		return v
	case 5, 6:
		return text([]string{"2020-01-01T00:00:00Z", "2020-01-01T01:00:00+01:00", "2019-12-31T23:59:59.5Z", "2020-01-01T00:00:00.000000001Z", "2020-01-01T00:00:00-00:30", "2024-02-29T00:00:00Z"}[r.Intn(6)])
	case 7, 8:
		return truth(r.Intn(2) == 0)
	}
	return []api.Value{null(), {Kind: 9, Truth: true}, list(), list(text("a")), object(field("a", number("1", 0)))}[r.Intn(5)]
}

// anyInput is an object of a few fields.
func anyInput(r *rand.Rand) api.Value {
	var fields []api.Field
	for _, name := range []string{"a", "b", "c", "d", "e"} {
		if r.Intn(6) > 0 {
			fields = append(fields, field(name, anyScalar(r)))
		}
	}
	return object(fields...)
}

// anyPath leads mostly to a field.
func anyPath(r *rand.Rand) api.Path {
	return api.Path{Nothing: r.Intn(30) == 0, Context: r.Intn(4) == 0, Steps: []api.Step{{Name: []string{"a", "b", "c", "d", "e", "q"}[r.Intn(5+r.Intn(2))]}}}
}

// anyRule has others within it, so deep at most; all its fields have something.
func anyRule(r *rand.Rand, deep int) api.Rule {
	x := api.Rule{Op: 1 + r.Intn(42), Var: anyPath(r), With: anyScalar(r), At: anyPath(r)}
	if x.Op >= 37 && r.Intn(3) > 0 {
		x.With = truth(r.Intn(2) == 0)
	}
	if deep > 0 && r.Intn(2) == 0 {
		x.Op = 1 + r.Intn(3)
	}
	if r.Intn(60) == 0 {
		x.Op = []int{0, -1, 43, 50}[r.Intn(4)]
	}
	n := r.Intn(4)
	if x.Op == 3 && r.Intn(8) > 0 {
		n = 1
	}
	for range n {
		if deep > 0 {
			x.All = append(x.All, anyRule(r, deep-1))
		}
	}
	return x
}

// P7.3 to P7.6: rules of every operator, against the model.
func TestAgainstAModel(t *testing.T) {
	r := rand.New(rand.NewSource(1))
	var met [43][4]int // of each operator: doesn't hold, holds, ErrPath, ErrKind
	for range 200000 {
		in, ctx, x := anyInput(r), anyInput(r), anyRule(r, r.Intn(4))
		if v, there := path.Get(x.Var, in, ctx); there && x.Op < 37 && r.Intn(4) == 0 {
			x.With = v
		}
		want := model(x, in, ctx)
		got, err := rule.Eval(x, in, ctx)
		if got != want.holds || err != want.err {
			t.Fatalf("Eval(%+v, %s, %s): %v, %v, want %+v", x, json.Print(in), json.Print(ctx), got, err, want)
		}
		if x.Op < 1 || x.Op > 42 {
			continue
		}
		switch {
		case err == api.ErrPath:
			met[x.Op][2]++
		case err == api.ErrKind:
			met[x.Op][3]++
		case got:
			met[x.Op][1]++
		default:
			met[x.Op][0]++
		}
	}
	for i, counts := range met[1:] {
		for j, n := range counts {
			if n < 10 && !(table()[i+1] == "IsPresent" && j == 2) {
				t.Errorf("%s: too few: %v", table()[i+1], counts)
			}
		}
	}
}

// eval is what a rule answers.
func eval(r api.Rule, in, ctx api.Value) answer {
	holds, err := rule.Eval(r, in, ctx)
	return answer{holds, err}
}

// P7.7: an operator with Path is the same without it, its With being what stands there.
func TestPathOrNot(t *testing.T) {
	r := rand.New(rand.NewSource(2))
	for range 40000 {
		in, ctx, x := anyInput(r), anyInput(r), anyRule(r, 0)
		x.Op = 4 + r.Intn(33)
		v, there := path.Get(x.At, in, ctx)
		if x.Op == 14 || !there || !strings.HasSuffix(table()[x.Op], "Path") {
			continue
		}
		plain := api.Rule{Op: x.Op - 1, Var: x.Var, With: v}
		if a, b := eval(x, in, ctx), eval(plain, in, ctx); a != b {
			t.Fatalf("%+v of %s, %s: %v; without Path: %v", x, json.Print(in), json.Print(ctx), a, b)
		}
	}
}

// P7.7: of two of one kind just one of less, equal, greater; and the two others are made of them.
func TestJustOne(t *testing.T) {
	r := rand.New(rand.NewSource(3))
	met := 0
	for range 60000 {
		kind := []string{"String", "Numeric", "Timestamp"}[r.Intn(3)]
		in := object(field("a", anyScalar(r)), field("b", anyScalar(r)))
		a, b := sideOf(in.Fields[0].Value), sideOf(in.Fields[1].Value)
		if _, ok := order(kind, a, b); !ok {
			continue
		}
		met++
		holds := map[string]bool{}
		count := 0
		for _, relation := range []string{"Equals", "LessThan", "GreaterThan", "LessThanEquals", "GreaterThanEquals"} {
			x := eval(api.Rule{Op: op(kind + relation + "Path"), Var: at("$.a"), At: at("$.b")}, in, null())
			if x.err != nil {
				t.Fatalf("%s%s of %s: %v", kind, relation, json.Print(in), x.err)
			}
			holds[relation] = x.holds
			if x.holds && !strings.HasSuffix(relation, "ThanEquals") {
				count++
			}
		}
		if count != 1 || holds["LessThanEquals"] != (holds["LessThan"] || holds["Equals"]) || holds["GreaterThanEquals"] != (holds["GreaterThan"] || holds["Equals"]) {
			t.Fatalf("%s of %s: %v", kind, json.Print(in), holds)
		}
	}
	if met < 5000 {
		t.Errorf("too few: %d", met)
	}
}

// P7.7: Not of And is Or of Not each, and the other way round, where no rule has an error.
func TestNotOfAnd(t *testing.T) {
	r := rand.New(rand.NewSource(4))
	met := 0
	for range 60000 {
		in, ctx := anyInput(r), anyInput(r)
		var all, nots []api.Rule
		for range r.Intn(4) {
			x := anyRule(r, 1)
			if eval(x, in, ctx).err == nil {
				all, nots = append(all, x), append(nots, not(x))
			}
		}
		if a, b := eval(not(and(all...)), in, ctx), eval(or(nots...), in, ctx); a != b || a.err != nil {
			t.Fatalf("%+v of %s: %v, %v", all, json.Print(in), a, b)
		}
		if a, b := eval(not(or(all...)), in, ctx), eval(and(nots...), in, ctx); a != b || a.err != nil {
			t.Fatalf("%+v of %s: %v, %v", all, json.Print(in), a, b)
		}
		if len(all) > 1 {
			met++
		}
	}
	if met < 5000 {
		t.Errorf("too few: %d", met)
	}
}
