package pipe_test

import (
	"errors"
	"fmt"
	"math/rand"
	"slices"
	"sort"
	"strings"
	"testing"

	"voyage/api"
	"voyage/call"
	"voyage/json"
	"voyage/path"
	"voyage/pipe"
)

func newRand(seed int64) *rand.Rand { return rand.New(rand.NewSource(seed)) }

// oneOf picks one of these.
func oneOf[T any](r *rand.Rand, items ...T) T { return items[r.Intn(len(items))] }

// anyName has few names, so that they meet; told says whether some are those of told fields.
func anyName(r *rand.Rand, told bool) string {
	name := oneOf(r, "a", "b", "c", "a-", "a!", "", "n", "\xff", "\ufffd", "é", "$", ".")
	if told && r.Intn(3) == 0 {
		name += oneOf(r, ".$", ".$", ".$.$")
	}
	return name
}

// anyTold is what may stand as a told field's value; mostly it leads somewhere in anyValue's values.
func anyTold(r *rand.Rand) api.Value {
	if r.Intn(20) == 0 {
		return oneOf(r, api.Value{}, number("10", 0), list(text("$")), object(field("a.$", text("$"))), everything(9))
	}
	return text(oneOf(r, "$", "$", "$", "$$", "$$", "$$", "$['a']", "$.a", "$.b", "$$.a", "$[0]", "$[-1]", "$['']", "a", "", "$.", "States.Array($, 1)", "States.Array()", "States.JsonToString($$)", "States.No()", "States.ArrayLength($)", "States.Array($.a)"))
}

// anyValue may be told in any way: with kinds that are none, with what its kind doesn't name, with names that come twice. Where told is true it is a template.
func anyValue(r *rand.Rand, deep int, told bool) api.Value {
	v := api.Value{Kind: oneOf(r, api.Null, api.Truth, api.Number, api.Text, api.List, api.List, api.Object, api.Object, api.Object, 9)}
	odd := r.Intn(8) == 0
	if v.Kind == api.Truth || odd {
		v.Truth = r.Intn(2) == 0
	}
	if v.Kind == api.Number || odd {
		v.Num = api.Dec{Neg: r.Intn(2) == 0, Digits: oneOf(r, "", "0", "10", "012", "700"), Exp: r.Intn(3)}
	}
	if v.Kind == api.Text || odd {
		v.Text = oneOf(r, "", "$", "$.a", "x\xff", "\"\\", "States.Array()")
	}
	if deep == 0 {
		return v
	}
	if v.Kind == api.List || odd {
		for range r.Intn(4) {
			v.List = append(v.List, anyValue(r, deep-1, told))
		}
	}
	if v.Kind == api.Object || odd {
		for range r.Intn(5) {
			f := field(anyName(r, told), anyValue(r, deep-1, told))
			if strings.HasSuffix(f.Name, ".$") {
				f.Value = anyTold(r)
			}
			v.Fields = append(v.Fields, f)
		}
	}
	return v
}

// model is a value as maps and lists; a leaf is its text.
func model(v api.Value) any {
	switch v.Kind {
	case api.List:
		out := []any{}
		for _, e := range v.List {
			out = append(out, model(e))
		}
		return out
	case api.Object:
		out := map[string]any{}
		for _, f := range v.Fields {
			name := string([]rune(f.Name))
			if _, there := out[name]; !there {
				out[name] = model(f.Value)
			}
		}
		return out
	}
	return json.Print(v)
}

// told tells a model; maps are told by rising names.
func told(m any) string { return fmt.Sprintf("%T %#v", m, m) }

// modelTold is what a told field's model tells: first what it is asked, then the answer.
func modelTold(m any, input, ctx api.Value) (any, error) {
	s, leaf := m.(string)
	if !leaf || s[0] != '"' {
		return nil, api.ErrKind
	}
	v, err := json.Parse(s)
	if err != nil {
		return nil, err
	}
	if call.Is(v.Text) {
		got, err := call.Eval(v.Text, input, ctx)
		if _, fault := err.(*api.Fault); fault {
			return nil, api.ErrCall
		}
		return model(got), err
	}
	p, err := path.Parse(v.Text)
	if err != nil {
		return nil, api.ErrPath
	}
	got, ok := path.Get(p, input, ctx)
	if !ok {
		return nil, api.ErrPath
	}
	return model(got), nil
}

// modelFill gives a new model, and all that is wrong in it, in the order in which it is met.
func modelFill(m any, input, ctx api.Value) (any, []error) {
	var wrong []error
	switch x := m.(type) {
	case []any:
		out := []any{}
		for _, e := range x {
			filled, more := modelFill(e, input, ctx)
			out, wrong = append(out, filled), append(wrong, more...)
		}
		return out, wrong
	case map[string]any:
		var names []string
		for name := range x {
			names = append(names, name)
		}
		sort.Strings(names)
		out := map[string]any{}
		for _, name := range names {
			n := len(name) - 2
			if n < 0 || name[n:] != ".$" {
				filled, more := modelFill(x[name], input, ctx)
				out[name], wrong = filled, append(wrong, more...)
			} else if _, there := x[name[:n]]; !there {
				v, err := modelTold(x[name], input, ctx)
				if err != nil {
					wrong = append(wrong, err)
				}
				out[name[:n]] = v
			}
		}
		return out, wrong
	}
	return m, nil
}

// P4.1 to P4.3: Fill against maps and lists.
func TestFillAgainstAModel(t *testing.T) {
	r := newRand(1)
	fine, wrong, several := 0, 0, 0
	for range 30000 {
		template, in, ctx := anyValue(r, 4, true), anyValue(r, 3, false), anyValue(r, 2, false)
		got, err := pipe.Fill(template, in, ctx)
		want, faults := modelFill(model(template), in, ctx)
		switch {
		case len(faults) > 0:
			if err != faults[0] || !identical(got, api.Value{}) {
				t.Fatalf("Fill(%s, %s, %s): %s, %v, want %v", json.Print(template), json.Print(in), json.Print(ctx), json.Print(got), err, faults)
			}
			wrong++
			if slices.ContainsFunc(faults, func(e error) bool { return e != faults[0] }) {
				several++
			}
		case err != nil || told(model(got)) != told(want) || !identical(got, json.Norm(got)):
			t.Fatalf("Fill(%s, %s, %s): %s, %v, want %v", json.Print(template), json.Print(in), json.Print(ctx), json.Print(got), err, want)
		default:
			fine++
		}
	}
	if fine < 10000 || wrong < 3000 || several < 500 {
		t.Errorf("too few: %d that are fine, %d that are wrong, %d twice", fine, wrong, several)
	}
}

// anyPath may be not Set, or null.
func anyPath(r *rand.Rand) api.Path {
	p := api.Path{Set: r.Intn(3) > 0, Nothing: r.Intn(6) == 0, Context: r.Intn(6) == 0}
	for range r.Intn(3) {
		p.Steps = append(p.Steps, oneOf(r, api.Step{Name: "a"}, api.Step{Name: "b", Place: 3}, api.Step{Name: "\xff"}, api.Step{IsAt: true}, api.Step{Name: "a", Place: -1, IsAt: true}, api.Step{}))
	}
	return p
}

func anyState(r *rand.Rand) api.State {
	s := api.State{Type: r.Intn(10), Input: anyPath(r), Output: anyPath(r), Result: anyPath(r), Parameters: anyValue(r, 2, true), Selector: anyValue(r, 2, true), HasParameters: r.Intn(3) == 0, HasSelector: r.Intn(3) == 0}
	if r.Intn(3) == 0 {
		s = crowded(s)
	}
	return s
}

// wrongName is the name of Fill's error.
func wrongName(err error) string {
	if errors.Is(err, api.ErrLong) {
		return limit
	}
	return parameters
}

// picked is the chapter's first and third row, by what path answers.
func picked(p api.Path, v, ctx api.Value) (api.Value, bool) {
	if !p.Set {
		return v, true
	}
	if p.Nothing {
		return object(), true
	}
	return path.Get(p, v, ctx)
}

// wantIn is In, row by row.
func wantIn(s api.State, raw, ctx api.Value) (api.Value, string) {
	v, ok := picked(s.Input, raw, ctx)
	if !ok {
		return api.Value{}, runtime
	}
	if s.HasParameters && s.Type != api.Map {
		filled, err := pipe.Fill(s.Parameters, v, ctx)
		if err != nil {
			return api.Value{}, wrongName(err)
		}
		v = filled
	}
	return json.Norm(v), ""
}

// wantOut is Out, row by row.
func wantOut(s api.State, raw, result, ctx api.Value) (api.Value, string) {
	v := result
	if s.HasSelector {
		filled, err := pipe.Fill(s.Selector, result, ctx)
		if err != nil {
			return api.Value{}, wrongName(err)
		}
		v = filled
	}
	if s.Result.Set && s.Result.Nothing {
		v = raw
	} else if s.Result.Set {
		put, ok := path.Put(s.Result, raw, v)
		if !ok {
			return api.Value{}, resultPath
		}
		v = put
	}
	v, ok := picked(s.Output, v, ctx)
	if !ok {
		return api.Value{}, runtime
	}
	return json.Norm(v), ""
}

// P4.4, P4.5: every mixture of what a state may say (of values that are all sound).
func TestInAndOutRowByRow(t *testing.T) {
	r := newRand(2)
	names := map[string]int{}
	for range 40000 {
		s, raw, result, ctx := anyState(r), anyValue(r, 3, false), anyValue(r, 3, false), anyValue(r, 2, false)
		got, name := pipe.In(s, raw, ctx)
		want, wantName := wantIn(s, raw, ctx)
		if name != wantName || !identical(got, want) {
			t.Fatalf("In(%+v, %s, %s): %s, %q, want %s, %q", s, json.Print(raw), json.Print(ctx), json.Print(got), name, json.Print(want), wantName)
		}
		names["in "+name]++
		got, name = pipe.Out(s, raw, result, ctx)
		want, wantName = wantOut(s, raw, result, ctx)
		if name != wantName || !identical(got, want) {
			t.Fatalf("Out(%+v, %s, %s, %s): %s, %q, want %s, %q", s, json.Print(raw), json.Print(result), json.Print(ctx), json.Print(got), name, json.Print(want), wantName)
		}
		names["out "+name]++
	}
	for _, name := range []string{"in ", "in " + runtime, "in " + parameters, "out ", "out " + runtime, "out " + parameters, "out " + resultPath} {
		if names[name] < 500 {
			t.Errorf("too few: %v", names)
		}
	}
}

// endsIn tells whether a name within v ends so.
func endsIn(v api.Value, mark string) bool {
	return slices.ContainsFunc(v.List, func(e api.Value) bool { return endsIn(e, mark) }) ||
		slices.ContainsFunc(v.Fields, func(f api.Field) bool { return strings.HasSuffix(f.Name, mark) || endsIn(f.Value, mark) })
}

// sound is the document's R6.
func sound(v api.Value) bool { return json.Depth(v) <= 64 && len(json.Print(v)) <= 1048576 }

// P4.6
func TestWhatFollowsOfFill(t *testing.T) {
	r := newRand(3)
	again := 0
	for range 20000 {
		plain, template, in, ctx := anyValue(r, 4, false), anyValue(r, 4, true), anyValue(r, 3, false), anyValue(r, 2, false)
		if got, err := pipe.Fill(plain, in, ctx); err != nil || !identical(got, json.Norm(plain)) {
			t.Fatalf("a template without told fields, %s: %s, %v", json.Print(plain), json.Print(got), err)
		}
		once, err := pipe.Fill(template, in, ctx)
		if err != nil {
			continue
		}
		if !sound(once) {
			t.Fatalf("not sound: %s", json.Print(once))
		}
		if endsIn(once, ".$") {
			continue
		}
		again++
		if twice, err := pipe.Fill(once, in, ctx); err != nil || !identical(twice, once) {
			t.Fatalf("filled again, %s: %s, %v", json.Print(once), json.Print(twice), err)
		}
	}
	if again < 5000 {
		t.Errorf("too few: %d", again)
	}
}

// bulky may be so deep, or so long, that it is sound just or not any more.
func bulky(r *rand.Rand) api.Value {
	if r.Intn(2) == 0 {
		return nest(anyValue(r, 2, false), 61+r.Intn(5), oneOf(r, "", "a"))
	}
	return object(field("a", sized(api.MaxText-30+r.Intn(40))), field("b", anyValue(r, 1, false)))
}

// P4.6, P4.3 to P4.5: what is answered is sound; what isn't has its error, and no other one.
func TestWhatIsAnsweredIsSound(t *testing.T) {
	r := newRand(4)
	limits, fine := 0, 0
	for range 80 {
		raw, result := bulky(r), bulky(r)
		template := oneOf(r, object(field("p.$", text("$"))), object(field("p.$", text("$.a"))), list(object(field("p.$", text("$$")))), raw)
		check := func(what string, got api.Value, name string) {
			switch {
			case name == limit:
				limits++
			case name == "":
				fine++
			}
			if !sound(got) || name != "" && !identical(got, api.Value{}) {
				t.Fatalf("%s: %.200q, %q", what, json.Print(got), name)
			}
		}
		got, err := pipe.Fill(template, raw, result)
		name := ""
		if err != nil {
			name = wrongName(err)
		}
		check("Fill", got, name)
		s := anyState(r)
		s.Parameters, s.Selector = template, template
		got, name = pipe.In(s, raw, result)
		check("In", got, name)
		got, name = pipe.Out(s, raw, result, raw)
		check("Out", got, name)
	}
	if limits < 30 || fine < 30 {
		t.Errorf("too few: %d, %d", limits, fine)
	}
}

// P4.6: where a state says nothing; what is put stands there, and raw everywhere beside it.
func TestWhatFollowsOfStates(t *testing.T) {
	r := newRand(5)
	put := 0
	for range 20000 {
		raw, result, ctx := anyValue(r, 4, false), anyValue(r, 2, false), anyValue(r, 2, false)
		none := api.State{Type: r.Intn(10), Parameters: raw, Selector: raw}
		if got, name := pipe.In(none, raw, ctx); name != "" || !identical(got, json.Norm(raw)) {
			t.Fatalf("In of %s: %s, %q", json.Print(raw), json.Print(got), name)
		}
		if got, name := pipe.Out(none, raw, result, ctx); name != "" || !identical(got, json.Norm(result)) {
			t.Fatalf("Out of %s: %s, %q", json.Print(result), json.Print(got), name)
		}
		p := anyPath(r)
		p.Set = true
		if !path.Plain(p) {
			continue
		}
		got, name := pipe.Out(api.State{Result: p}, raw, result, ctx)
		if name != "" {
			continue
		}
		put++
		if there, ok := path.Get(p, got, ctx); !ok || !identical(there, json.Norm(result)) {
			t.Fatalf("put %s at %s: %s", json.Print(result), path.Text(p), json.Print(got))
		}
		beside(t, p, raw, got)
	}
	if put < 3000 {
		t.Errorf("too few: %d", put)
	}
}

// beside wants that each member that p's first step doesn't lead to is as it was.
func beside(t *testing.T, p api.Path, raw, got api.Value) {
	t.Helper()
	if len(p.Steps) == 0 {
		return
	}
	first := string([]rune(p.Steps[0].Name))
	for _, f := range json.Norm(raw).Fields {
		now, ok := json.Get(got, f.Name)
		if f.Name != first && (!ok || !identical(now, f.Value)) {
			t.Fatalf("%s: beside %s, %s was %s", json.Print(got), path.Text(p), f.Name, json.Print(f.Value))
		}
	}
	for i, e := range json.Norm(raw).List {
		now, ok := json.At(got, i)
		if i != p.Steps[0].Place && (!ok || !identical(now, e)) {
			t.Fatalf("%s: beside %s, %d was %s", json.Print(got), path.Text(p), i, json.Print(e))
		}
	}
}

// lists are all lists of a value, with their spare room.
func lists(v api.Value, values *[][]api.Value, fields *[][]api.Field) {
	*values = append(*values, v.List[:cap(v.List)])
	*fields = append(*fields, v.Fields[:cap(v.Fields)])
	for _, e := range v.List {
		lists(e, values, fields)
	}
	for _, f := range v.Fields {
		lists(f.Value, values, fields)
	}
}

// apart tells whether no two lists of these values share an element.
func apart(vs ...api.Value) bool {
	var values [][]api.Value
	var fields [][]api.Field
	for _, v := range vs {
		lists(v, &values, &fields)
	}
	seenValue, seenField := map[*api.Value]bool{}, map[*api.Field]bool{}
	for _, l := range values {
		for i := range l {
			if seenValue[&l[i]] {
				return false
			}
			seenValue[&l[i]] = true
		}
	}
	for _, l := range fields {
		for i := range l {
			if seenField[&l[i]] {
				return false
			}
			seenField[&l[i]] = true
		}
	}
	return true
}

// R3, R4: what goes in stays as it is, and what comes out is its owner's; asked again, the answer is the same.
func TestNewMemory(t *testing.T) {
	r := newRand(6)
	for range 10000 {
		s, template, raw, result, ctx := anyState(r), anyValue(r, 3, true), anyValue(r, 3, false), anyValue(r, 3, false), anyValue(r, 2, false)
		before := fmt.Sprintf("%#v %#v %#v %#v %#v", s, template, raw, result, ctx)
		var answers [2][3]api.Value
		for i := range answers {
			answers[i][0], _ = pipe.Fill(template, raw, ctx)
			answers[i][1], _ = pipe.In(s, raw, ctx)
			answers[i][2], _ = pipe.Out(s, raw, result, ctx)
		}
		if fmt.Sprintf("%#v %#v %#v %#v %#v", s, template, raw, result, ctx) != before {
			t.Fatalf("changed: %s", before)
		}
		all := append([]api.Value{s.Parameters, s.Selector, template, raw, result, ctx}, append(answers[0][:], answers[1][:]...)...)
		if !apart(all...) {
			t.Fatalf("shared memory: %s", before)
		}
		for i := range answers[0] {
			if !identical(answers[0][i], answers[1][i]) {
				t.Fatalf("answered otherwise: %s", before)
			}
		}
	}
	twice := object(field("p.$", text("$")), field("q.$", text("$")), field("r", list(object(field("s.$", text("$"))))))
	in := list(list(text("x")), object(field("k", list())))
	got, err := pipe.Fill(twice, in, api.Value{})
	if err != nil || !apart(twice, in, got) {
		t.Errorf("one value told thrice: %s, %v", json.Print(got), err)
	}
	for _, answer := range []func() (api.Value, string){
		func() (api.Value, string) { return pipe.In(api.State{}, in, api.Value{}) },
		func() (api.Value, string) { return pipe.Out(api.State{}, api.Value{}, in, api.Value{}) },
		func() (api.Value, string) { return pipe.Out(api.State{Result: null()}, in, api.Value{}, api.Value{}) },
		func() (api.Value, string) {
			return pipe.Out(api.State{Result: api.Path{Set: true, Steps: []api.Step{{IsAt: true}}}}, in, in, api.Value{})
		},
	} {
		got, name := answer()
		if name != "" || !apart(in, got) {
			t.Errorf("shared memory: %s, %q", json.Print(got), name)
		}
	}
}
