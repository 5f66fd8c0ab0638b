package def_test

import (
	"math"
	"math/rand"
	"reflect"
	"slices"
	"sort"
	"strconv"
	"strings"
	"sync"
	"testing"

	"voyage/api"
	"voyage/def"
	"voyage/json"
)

func newRand(seed int64) *rand.Rand { return rand.New(rand.NewSource(seed)) }

// oneOf picks one of these.
func oneOf[T any](r *rand.Rand, items ...T) T { return items[r.Intn(len(items))] }

// writer makes machines as Read gives them, and values that tell these in ways that Read must see through.
type writer struct{ *rand.Rand }

// some tells whether something is there.
func (w writer) some() bool { return w.Intn(3) == 0 }

// object has its fields in any order, with others of the same names behind some of them, which don't count.
func (w writer) object(fields ...api.Field) api.Value {
	w.Shuffle(len(fields), func(i, j int) { fields[i], fields[j] = fields[j], fields[i] })
	if len(fields) > 0 && w.Intn(10) == 0 {
		fields = append(fields, field(fields[w.Intn(len(fields))].Name, oneOf(w.Rand, null(), list(), text("no"))))
	}
	v := object(fields...)
	if w.Intn(10) == 0 {
		v.Text, v.List, v.Truth = "odd", []api.Value{null()}, true
	}
	return v
}

func (w writer) name() (string, api.Value) {
	s := oneOf(w.Rand, "a", "b", "x y", "it's", "é", "\U0001f600", "A", "Next", "Type", "\x00", "$")
	return s, text(s)
}

func (w writer) text() (string, api.Value) {
	if w.Intn(4) == 0 {
		return "q\ufffd", text(oneOf(w.Rand, "q\xff", "q\ufffd", "q\x80"))
	}
	s := oneOf(w.Rand, "", "e", "States.ALL", "\"\\")
	return s, text(s)
}

func (w writer) whole() (int, api.Value) {
	n := oneOf(w.Rand, 0, 0, 1, 2, 3, 10, 120, 2147483647, 2147483640)
	noughts := w.Intn(3)
	return n, number(strings.Repeat("0", w.Intn(2))+strconv.Itoa(n)+strings.Repeat("0", noughts), -noughts)
}

func (w writer) path(plain bool) (api.Path, api.Value) {
	s := oneOf(w.Rand, "$", "$.a", "$['a']", "$.a.b[0]", "$['x y']['']", "$['it\\'s']", "$[2147483647]", "$$", "$$.a['b']", "$[-1]", "$.a[-2147483647].b")
	if p := at(s); !plain || !p.Context && !strings.Contains(s, "-") {
		return p, text(s)
	}
	return w.path(plain)
}

func (w writer) way(plain bool) (api.Path, api.Value) {
	if w.some() {
		return nothing(), oneOf(w.Rand, null(), api.Value{Kind: 9, Text: "$"}, api.Value{Kind: -1})
	}
	return w.path(plain)
}

func (w writer) moment() (string, api.Value) {
	s := oneOf(w.Rand, "1970-01-01T00:00:00Z", "2020-02-29T12:00:00.50+01:00", "0000-01-01T00:00:00Z", "9999-12-31T23:59:59.999999999Z", "2020-01-01T00:00:00-00:00")
	return s, text(s)
}

// any gives a value in the one form, and another way to tell it.
func (w writer) any(deep int) (api.Value, api.Value) {
	switch kind := w.Intn(7); {
	case kind == 0:
		return null(), api.Value{Kind: 11, Truth: true}
	case kind == 1:
		return truth(true), truth(true)
	case kind == 2:
		return api.Value{Kind: api.Number, Num: api.Dec{Neg: true, Digits: "15", Exp: -1}}, api.Value{Kind: api.Number, Num: api.Dec{Neg: true, Digits: "0150", Exp: -2}}
	case kind == 3 || deep == 0:
		s, v := w.text()
		return text(s), v
	case kind == 4:
		a, b := w.any(deep - 1)
		c, d := w.any(deep - 1)
		return list(a, c), list(b, d)
	case kind == 5:
		return object(), api.Value{Kind: api.Object, List: []api.Value{null()}}
	}
	a, b := w.any(deep - 1)
	c, d := w.any(deep - 1)
	return object(field("a.$", a), field("b", c)), w.object(field("b", d), field("a.$", b))
}

func (w writer) names() ([]string, api.Value) {
	var names []string
	v := list()
	for range w.Intn(3) {
		s, told := w.text()
		names, v.List = append(names, s), append(v.List, told)
	}
	return names, v
}

func (w writer) retrier() (api.Retrier, api.Value) {
	r := api.Retrier{Interval: 1, Most: 3, Rate: api.Dec{Digits: "2"}}
	var fields []api.Field
	var v api.Value
	r.Errors, v = w.names()
	fields = append(fields, field("ErrorEquals", v))
	if w.some() {
		r.Interval, v = w.whole()
		fields = append(fields, field("IntervalSeconds", v))
	}
	if w.some() {
		r.Most, v = w.whole()
		fields = append(fields, field("MaxAttempts", v))
	}
	if w.some() {
		r.Rate = api.Dec{Digits: "15", Exp: w.Intn(3) - 2}
		fields = append(fields, field("BackoffRate", number("0150", r.Rate.Exp-1)))
	}
	if w.some() {
		r.MaxDelay, v = w.whole()
		fields = append(fields, field("MaxDelaySeconds", v))
	}
	return r, w.object(fields...)
}

func (w writer) catcher() (c api.Catcher, v api.Value) {
	c.Errors, v = w.names()
	fields := []api.Field{field("ErrorEquals", v)}
	c.Next, v = w.name()
	fields = append(fields, field("Next", v))
	if w.some() {
		c.Result, v = w.way(true)
		fields = append(fields, field("ResultPath", v))
	}
	return c, w.object(fields...)
}

func (w writer) rule(deep int, choice bool) (r api.Rule, v api.Value) {
	var names []string
	for name := range operands() {
		names = append(names, name)
	}
	sort.Strings(names)
	name := oneOf(w.Rand, names...)
	if w.Intn(2) == 0 {
		name = oneOf(w.Rand, "And", "Or", "Not")
	}
	if deep == 0 && name == "Not" {
		name = "And"
	}
	o := operands()[name]
	r.Op = o.number
	var fields []api.Field
	switch o.kind {
	case "rules":
		v = list()
		for range w.Intn(3) * min(1, deep) {
			inner, told := w.rule(deep-1, false)
			r.All, v.List = append(r.All, inner), append(v.List, told)
		}
	case "rule":
		inner, told := w.rule(deep-1, false)
		r.All, v = []api.Rule{inner}, told
	case "path":
		r.At, v = w.path(false)
	case "moment":
		var s string
		s, v = w.moment()
		r.With = text(s)
	case "text":
		var s string
		s, v = w.text()
		r.With = text(s)
	case "truth":
		r.With = truth(w.some())
		v = r.With
	case "number":
		r.With, v = number("7", 1), number("0700", -1)
	}
	fields = append(fields, field(name, v))
	if o.number > 3 {
		r.Var, v = w.path(false)
		fields = append(fields, field("Variable", v))
	}
	if choice {
		r.Next, v = w.name()
		fields = append(fields, field("Next", v))
	}
	return r, w.object(fields...)
}

func (w writer) state(deep int) (s api.State, v api.Value) {
	s.Type = 1 + w.Intn(8)
	if deep == 0 {
		s.Type = 1 + w.Intn(6)
	}
	name := []string{"", "Pass", "Task", "Choice", "Wait", "Succeed", "Fail", "Parallel", "Map"}[s.Type]
	fields := []api.Field{field("Type", text(name))}
	add := func(name string, v api.Value) { fields = append(fields, field(name, v)) }
	is := func(types ...int) bool { return slices.Contains(types, s.Type) }
	if w.some() {
		_, v = w.text()
		add("Comment", v)
	}
	if is(1, 2, 4, 7, 8) && w.some() {
		add("End", truth(true))
	} else if is(1, 2, 4, 7, 8) {
		s.Next, v = w.name()
		add("Next", v)
	}
	if !is(6) && w.some() {
		s.Input, v = w.way(false)
		add("InputPath", v)
	}
	if !is(6) && w.some() {
		s.Output, v = w.way(false)
		add("OutputPath", v)
	}
	if is(1, 2, 7, 8) && w.some() {
		s.Result, v = w.way(true)
		add("ResultPath", v)
	}
	if is(1, 2, 7, 8) && w.some() {
		s.HasParameters = true
		s.Parameters, v = w.any(3)
		add("Parameters", v)
	}
	if is(2, 7, 8) {
		w.tries(&s, add)
	}
	w.own(&s, add, deep)
	return s, w.object(fields...)
}

// tries adds what a state has that is tried again.
func (w writer) tries(s *api.State, add func(string, api.Value)) {
	if w.some() {
		s.HasSelector = true
		told, v := w.any(3)
		s.Selector = told
		add("ResultSelector", v)
	}
	if w.some() {
		v := list()
		for range w.Intn(3) {
			r, told := w.retrier()
			s.Retry, v.List = append(s.Retry, r), append(v.List, told)
		}
		add("Retry", v)
	}
	if w.some() {
		v := list()
		for range w.Intn(3) {
			c, told := w.catcher()
			s.Catch, v.List = append(s.Catch, c), append(v.List, told)
		}
		add("Catch", v)
	}
}

// own adds what a state of its type alone has.
func (w writer) own(s *api.State, add func(string, api.Value), deep int) {
	var v api.Value
	switch s.Type {
	case api.Pass:
		if w.some() {
			s.HasFixed = true
			s.Fixed, v = w.any(3)
			add("Result", v)
		}
	case api.Task:
		s.Resource, v = w.name()
		add("Resource", v)
	case api.Choice:
		v = list()
		for range w.Intn(4) {
			r, told := w.rule(3, true)
			s.Rules, v.List = append(s.Rules, r), append(v.List, told)
		}
		add("Choices", v)
		if w.some() {
			s.Default, v = w.name()
			add("Default", v)
		}
	case api.Wait:
		w.wait(s, add)
	case api.Fail:
		if w.some() {
			s.Error, v = w.text()
			add("Error", v)
		}
		if w.some() {
			s.Cause, v = w.text()
			add("Cause", v)
		}
	case api.Parallel:
		v = list()
		for range w.Intn(3) {
			m, told := w.machine(deep - 1)
			s.Parts, v.List = append(s.Parts, m), append(v.List, told)
		}
		add("Branches", v)
	case api.Map:
		m, v := w.machine(deep - 1)
		s.Parts = []api.Machine{m}
		add("Iterator", v)
		if w.some() {
			s.Items, v = w.path(false)
			add("ItemsPath", v)
		}
		if w.some() {
			s.Most, v = w.whole()
			add("MaxConcurrency", v)
		}
	}
}

func (w writer) wait(s *api.State, add func(string, api.Value)) {
	var v api.Value
	s.WaitKind = 1 + w.Intn(4)
	switch s.WaitKind {
	case 1:
		s.Seconds, v = w.whole()
	case 3:
		told, as := w.moment()
		s.Until, v = moment(told), as
	default:
		s.AtPath, v = w.path(false)
	}
	add([]string{"", "Seconds", "SecondsPath", "Timestamp", "TimestampPath"}[s.WaitKind], v)
}

func (w writer) machine(deep int) (m api.Machine, v api.Value) {
	m.Start, v = w.name()
	fields := []api.Field{field("StartAt", v)}
	if w.some() {
		fields = append(fields, field("Comment", text("c")))
	}
	states := map[string]api.Value{}
	for range w.Intn(4) {
		name, _ := w.name()
		if _, is := states[name]; is {
			continue
		}
		s, told := w.state(deep)
		s.Name = name
		states[name] = told
		m.States = append(m.States, s)
	}
	sort.Slice(m.States, func(i, j int) bool { return m.States[i].Name < m.States[j].Name })
	var all []api.Field
	for _, s := range m.States {
		all = append(all, field(s.Name, states[s.Name]))
	}
	return m, w.object(append(fields, field("States", w.object(all...)))...)
}

// P8.1, P8.2, P8.4: whatever way a machine is told, Read gives it; Print tells it as the model does; and that is read as the same.
func TestToldAndRead(t *testing.T) {
	w := writer{newRand(1)}
	met := map[int]int{}
	for range 6000 {
		m, v := w.machine(3)
		if f := modelFault("machine", json.Norm(v), "$"); f.err != nil {
			t.Fatalf("%s: %v at %s", json.Print(v), f.err, f.where)
		}
		got, err := def.Read(v)
		if err != nil || !alike(got, m) {
			t.Fatalf("Read(%s):\n%+v, %v, want\n%+v", json.Print(v), got, err, m)
		}
		told := def.Print(got)
		if want := modelPrint(m); json.Print(told) != want || !alike(told, json.Norm(told)) {
			t.Fatalf("Print:\n%s, want\n%s", json.Print(told), want)
		}
		again, err := def.Read(told)
		if err != nil || !alike(again, m) {
			t.Fatalf("Read(Print):\n%+v, %v, want\n%+v", again, err, m)
		}
		for _, s := range m.States {
			met[s.Type]++
		}
	}
	for kind := 1; kind <= 8; kind++ {
		if met[kind] < 500 {
			t.Errorf("too few: %v", met)
		}
	}
}

// fieldNames are all names that the document gives to fields, and some that it doesn't.
var fieldNames = sync.OnceValue(func() []string {
	names := []string{"", "A", "Zone", "next", "x y", "\xff", "TimeoutSeconds"}
	for _, line := range grammar {
		before, _, _ := strings.Cut(line, "/")
		for _, word := range strings.Fields(before) {
			name, _, _ := strings.Cut(word, ":")
			names = append(names, name)
		}
	}
	for name := range operands() {
		names = append(names, name)
	}
	sort.Strings(names)
	return slices.Compact(names)
})

// pieces are values that may be right or wrong anywhere.
var pieces = sync.OnceValue(func() []api.Value {
	var out []api.Value
	for _, s := range []string{`null`, `true`, `false`, `0`, `1`, `-1`, `1.5`, `2147483647`, `2147483648`, `1e9999`, `""`, `"a"`, `"$"`, `"$.a"`, `"$$.a"`, `"$[-1]"`, `"$."`, `"Pass"`, `"Wait"`, `"Map"`, `"2020-01-01T00:00:00Z"`, `"0000-01-01T00:00:00+00:01"`, `[]`, `[1]`, `["a"]`, `["a", null]`, `[[]]`, `{}`, `[{}]`, `{"a": 1}`, `{"Type": "Fail"}`, `{"": 1}`, `{"a": {"Type": "Succeed"}}`, `{"StartAt": "a", "States": {}}`, `[{"StartAt": "a", "States": {"a": 1}}]`, `[{"ErrorEquals": []}]`, `[{"ErrorEquals": [], "Next": "a"}]`, `[{"Next": "a", "And": []}]`, `[{"And": []}]`, `{"And": []}`, `{"Variable": "$", "IsNull": true}`} {
		out = append(out, value(s))
	}
	return append(out, api.Value{Kind: 9, Text: "a"}, number("010", -1))
})

// agrees wants that Read finds what the model finds, and gives what that was.
func agrees(t *testing.T, v api.Value) found {
	t.Helper()
	want := modelFault("machine", json.Norm(v), "$")
	got, err := def.Read(v)
	f, is := err.(*api.Fault)
	switch {
	case want.err == nil && err == nil:
		if again, err := def.Read(def.Print(got)); err != nil || !alike(again, got) {
			t.Fatalf("%s, told again:\n%+v, %v, want\n%+v", json.Print(v), again, err, got)
		}
	case !is || f.At != 0 || f.Where != want.where || f.Err != want.err || !reflect.DeepEqual(got, api.Machine{}):
		t.Fatalf("Read(%s): %v, want %v at %s", json.Print(v), err, want.err, want.where)
	}
	return want
}

// P8.1: each name with each piece, in an object of each sort, alone and beside others.
func TestEachField(t *testing.T) {
	bases := []string{`{"StartAt": "a", "States": {}}`, `{}`}
	wrap := []func(string) string{func(s string) string { return s }, func(s string) string { return s }}
	add := func(in func(string) string, texts ...string) {
		for _, s := range texts {
			bases, wrap = append(bases, s), append(wrap, in)
		}
	}
	add(alone, `{"Type": "Pass", "End": true}`, `{"Type": "Pass", "Next": "a"}`, `{"Type": "Pass"}`, `{"Type": "Task", "Resource": "r", "End": true}`, `{"Type": "Task"}`, `{"Type": "Choice", "Choices": []}`, `{"Type": "Choice"}`, `{"Type": "Wait", "Seconds": 1, "End": true}`, `{"Type": "Wait", "SecondsPath": "$", "Next": "a"}`, `{"Type": "Wait", "Timestamp": "2020-01-01T00:00:00Z", "Next": "a"}`, `{"Type": "Wait", "End": true}`, `{"Type": "Wait"}`,
		`{"Type": "Succeed"}`, `{"Type": "Fail"}`, `{"Type": "Parallel", "Branches": [], "End": true}`, `{"Type": "Parallel"}`, `{"Type": "Map", "Iterator": {"StartAt": "a", "States": {}}, "Next": "a"}`, `{"Type": "Map"}`, `{}`)
	task := func(name string) func(string) string {
		return func(s string) string {
			return alone(`{"Type": "Task", "Resource": "r", "End": true, "` + name + `": [{"ErrorEquals": ["x"], "Next": "a"}, ` + s + `]}`)
		}
	}
	add(func(s string) string { return strings.Replace(task("Retry")(s), `, "Next": "a"`, "", 1) }, `{"ErrorEquals": []}`, `{}`)
	add(task("Catch"), `{"ErrorEquals": [], "Next": "b"}`, `{"ErrorEquals": []}`, `{"Next": "b"}`)
	for _, in := range []string{`[?]`, `[{"Next": "a", "And": []}, ?]`, `[{"Next": "a", "Not": ?}]`, `[{"Next": "a", "Or": [{"And": []}, ?]}]`} {
		add(func(s string) string { return choosing(strings.Replace(in, "?", s, 1)) }, `{"Next": "b", "And": []}`, `{"Variable": "$", "IsNull": true}`, `{"Next": "b", "Variable": "$", "StringEquals": "x"}`, `{"Not": {"Or": []}}`, `{"Next": "b"}`, `{}`)
	}
	met := map[error]int{}
	for i, base := range bases {
		for _, name := range fieldNames() {
			for _, piece := range pieces() {
				object := value(base)
				object.Fields = append([]api.Field{field(name, piece)}, object.Fields...) // of one name the first counts
				met[agrees(t, value(wrap[i](json.Print(object)))).err]++
			}
		}
	}
	for _, err := range []error{nil, api.ErrKind, api.ErrField, api.ErrLacks, api.ErrRange, api.ErrPath, api.ErrTime} {
		if met[err] < 50 {
			t.Errorf("%v: too few: %d", err, met[err])
		}
	}
}

// spoil changes something anywhere in a value in the one form.
func (w writer) spoil(v api.Value) api.Value {
	v = json.Norm(v)
	var places []*api.Value
	var walk func(v *api.Value)
	walk = func(v *api.Value) {
		places = append(places, v)
		for i := range v.List {
			walk(&v.List[i])
		}
		for i := range v.Fields {
			walk(&v.Fields[i].Value)
		}
	}
	walk(&v)
	at := places[w.Intn(len(places))]
	for range w.Intn(4) { // rather an object or a list
		if at.Kind != api.Object && at.Kind != api.List {
			at = places[w.Intn(len(places))]
		}
	}
	switch {
	case at.Kind == api.Object && len(at.Fields) > 0 && w.Intn(2) == 0:
		i := w.Intn(len(at.Fields))
		if w.some() {
			at.Fields[i].Name = oneOf(w.Rand, fieldNames()...)
		} else {
			at.Fields = slices.Delete(at.Fields, i, i+1)
		}
	case at.Kind == api.Object:
		at.Fields = append([]api.Field{field(oneOf(w.Rand, fieldNames()...), w.piece(places))}, at.Fields...)
	case at.Kind == api.List && w.some():
		at.List = append(at.List, w.piece(places))
	default:
		*at = w.piece(places)
	}
	return json.Norm(v)
}

// piece is one of the pieces, or what stands elsewhere in the value.
func (w writer) piece(places []*api.Value) api.Value {
	if w.some() {
		return json.Norm(*places[w.Intn(len(places))])
	}
	return oneOf(w.Rand, pieces()...)
}

// P8.1: what is found in machines in which something was changed; P8.4, where they are machines still.
func TestSpoiled(t *testing.T) {
	w := writer{newRand(2)}
	met := map[error]int{}
	where := map[string]int{}
	for range 25000 {
		_, v := w.machine(3)
		for range 1 + w.Intn(3) {
			v = w.spoil(v)
		}
		f := agrees(t, v)
		met[f.err]++
		where[f.where]++
	}
	for _, err := range []error{nil, api.ErrKind, api.ErrField, api.ErrLacks, api.ErrRange, api.ErrPath, api.ErrTime} {
		if met[err] < 10 {
			t.Errorf("%v: too few: %d", err, met[err])
		}
	}
	if len(where) < 2000 {
		t.Errorf("too few places: %d", len(where))
	}
}

// wild fills whatever it is given with anything at all.
func (w writer) wild(v reflect.Value, deep int) {
	switch v.Kind() {
	case reflect.Bool:
		v.SetBool(w.Intn(2) == 0)
	case reflect.Int, reflect.Int64:
		v.SetInt(oneOf(w.Rand, int64(w.Intn(9)), int64(w.Intn(5)), int64(w.Intn(45)), -1, math.MaxInt64, math.MinInt64))
	case reflect.String:
		v.SetString(oneOf(w.Rand, "", "a", "b", "x y", "\xff", "\ufffd", "it's", "12", "0150"))
	case reflect.Slice:
		if deep == 0 {
			return
		}
		n := w.Intn(4)
		v.Set(reflect.MakeSlice(v.Type(), n, n+w.Intn(2)))
		for i := range n {
			w.wild(v.Index(i), deep-1)
		}
	case reflect.Struct:
		for i := range v.NumField() {
			w.wild(v.Field(i), deep)
		}
	}
}

// P8.2: machines that Read would never give.
func TestPrintWild(t *testing.T) {
	w := writer{newRand(3)}
	met := map[int]int{}
	for range 3000 {
		var m api.Machine
		w.wild(reflect.ValueOf(&m).Elem(), 4)
		before := bare(m)
		got := def.Print(m)
		if want := modelPrint(m); json.Print(got) != want || !alike(got, json.Norm(got)) {
			t.Fatalf("Print(%+v):\n%s, want\n%s", m, json.Print(got), want)
		}
		if !alike(m, before) {
			t.Fatalf("changed: %+v, was %+v", m, before)
		}
		for _, s := range m.States {
			met[s.Type]++
		}
	}
	for kind := range 9 {
		if met[kind] < 50 {
			t.Errorf("too few: %v", met)
		}
	}
}

// normed makes the one form of all values and numbers.
func normed[T any](x T) T {
	x = bare(x)
	var walk func(v reflect.Value)
	walk = func(v reflect.Value) {
		switch p := v.Addr().Interface().(type) {
		case *api.Value:
			*p = json.Norm(*p)
			return
		case *api.Dec:
			*p = json.Norm(api.Value{Kind: api.Number, Num: *p}).Num
			return
		}
		switch v.Kind() {
		case reflect.Slice:
			for i := range v.Len() {
				walk(v.Index(i))
			}
		case reflect.Struct:
			for i := range v.NumField() {
				walk(v.Field(i))
			}
		}
	}
	walk(reflect.ValueOf(&x).Elem())
	return x
}

// P8.3: of any machine.
func TestFindWild(t *testing.T) {
	w := writer{newRand(4)}
	met := 0
	for range 3000 {
		var m api.Machine
		w.wild(reflect.ValueOf(&m).Elem(), 4)
		for _, name := range []string{"", "a", "b", "\xff", "\ufffd", "none"} {
			i := slices.IndexFunc(m.States, func(s api.State) bool { return s.Name == name })
			got, is := def.Find(m, name)
			if is != (i >= 0) || !is && !reflect.DeepEqual(got, api.State{}) || is && !alike(got, normed(m.States[i])) {
				t.Fatalf("Find(%+v, %q): %+v, %v", m, name, got, is)
			}
			if is {
				met++
			}
		}
	}
	if met < 1000 {
		t.Errorf("too few: %d", met)
	}
}

// span is the memory of a list, with its spare room.
type span struct{ from, to uintptr }

// spans gives the memory of all lists in something, that of what stands in spare room too.
func spans(x any) []span {
	var out []span
	var walk func(v reflect.Value)
	walk = func(v reflect.Value) {
		switch v.Kind() {
		case reflect.Slice:
			if v.Cap() == 0 {
				return
			}
			v = v.Slice(0, v.Cap())
			out = append(out, span{v.Pointer(), v.Pointer() + uintptr(v.Len())*v.Type().Elem().Size()})
			for i := range v.Len() {
				walk(v.Index(i))
			}
		case reflect.Struct:
			for i := range v.NumField() {
				walk(v.Field(i))
			}
		}
	}
	walk(reflect.ValueOf(x))
	return out
}

// apart wants that no two lists of an answer share memory, nor one of them with what was handed in.
func apart(t *testing.T, answer, given any) {
	t.Helper()
	own := spans(answer)
	slices.SortFunc(own, func(a, b span) int { return int(a.from) - int(b.from) })
	for i := 1; i < len(own); i++ {
		if own[i].from < own[i-1].to {
			t.Fatalf("two lists share memory: %+v", answer)
		}
	}
	for _, g := range spans(given) {
		i, _ := slices.BinarySearchFunc(own, g.from, func(s span, at uintptr) int { return int(s.to) - int(at) - 1 })
		if i < len(own) && own[i].from < g.to && g.from < own[i].to {
			t.Fatalf("shared with what was handed in: %+v", answer)
		}
	}
}

// R3: what is handed in is neither changed nor kept; what is answered is new memory, and no two lists of it share any.
func TestMemory(t *testing.T) {
	w := writer{newRand(5)}
	for range 1500 {
		_, v := w.machine(3)
		before := bare(v)
		m, err := def.Read(v)
		if err != nil || !alike(v, before) {
			t.Fatalf("changed: %+v, was %+v", v, before)
		}
		apart(t, m, v)
		def.Read(w.spoil(v))
		apart(t, def.Print(m), m)
		shared := api.State{Name: "a", Type: api.Choice, Parameters: v, HasParameters: true, Fixed: v, Selector: v, Parts: []api.Machine{m, m}}
		all := api.Machine{States: append([]api.State{shared}, append(m.States, m.States...)...)}
		before2 := bare(all)
		for _, kind := range []int{api.Pass, api.Choice, api.Parallel, api.Map} {
			all.States[0].Type = kind
			apart(t, def.Print(all), all)
		}
		all.States[0].Type = api.Choice
		for _, s := range all.States {
			found, is := def.Find(all, s.Name)
			if !is {
				t.Fatalf("%q", s.Name)
			}
			apart(t, found, all)
		}
		if !alike(all, before2) {
			t.Fatalf("changed: %+v, was %+v", all, before2)
		}
	}
	for range 500 {
		var m api.Machine
		w.wild(reflect.ValueOf(&m).Elem(), 4)
		apart(t, def.Print(m), m)
		for _, s := range m.States {
			found, _ := def.Find(m, s.Name)
			apart(t, found, m)
		}
	}
}
