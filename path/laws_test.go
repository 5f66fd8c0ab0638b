package path_test

import (
	"fmt"
	"math"
	"math/rand"
	"slices"
	"strings"
	"testing"
	"unicode/utf8"

	"voyage/api"
	"voyage/json"
	"voyage/path"
)

func newRand(seed int64) *rand.Rand { return rand.New(rand.NewSource(seed)) }

// said is what a name says: going through it by runes makes FFFD of each byte at which no letter begins.
func said(s string) string { return string([]rune(s)) }

// oneForm is the one form of a path that isn't null.
func oneForm(p api.Path) api.Path {
	out := api.Path{Set: true, Context: p.Context}
	for _, s := range p.Steps {
		if s.IsAt {
			out.Steps = append(out.Steps, at(s.Place))
		} else {
			out.Steps = append(out.Steps, name(said(s.Name)))
		}
	}
	return out
}

// anyName has names that are plain and such that aren't; few of them, so that they meet.
func anyName(r *rand.Rand) string {
	names := []string{"a", "b", "c", "b-c", "", "it's", `\`, "\xff", "\x80", "\ufffd", "é", "a b", "0", "\xe2\x82"}
	if r.Intn(3) > 0 {
		return names[r.Intn(3)]
	}
	return names[r.Intn(len(names))]
}

// anyStep may have what doesn't count.
func anyStep(r *rand.Rand) api.Step {
	s := api.Step{Name: anyName(r), IsAt: r.Intn(3) == 0}
	if s.IsAt || r.Intn(4) == 0 {
		s.Place = []int{0, 0, 1, 2, -1, -2, math.MaxInt32, -math.MaxInt32}[r.Intn(8)]
	}
	if s.IsAt && r.Intn(4) > 0 {
		s.Name = ""
	}
	return s
}

func anyPath(r *rand.Rand) api.Path {
	p := api.Path{Set: r.Intn(2) == 0, Nothing: r.Intn(20) == 0, Context: r.Intn(5) == 0}
	n := r.Intn(5)
	if r.Intn(20) == 0 {
		n = []int{63, 64, 65, 66}[r.Intn(4)]
	}
	for range n {
		p.Steps = append(p.Steps, anyStep(r))
	}
	return p
}

// anyValue may be told in any way: with kinds that are none, with what its kind doesn't name, with names that come twice.
func anyValue(r *rand.Rand, deep int) api.Value {
	v := api.Value{Kind: []int{api.Null, api.Truth, api.Number, api.Text, api.List, api.List, api.Object, api.Object, api.Object, 9}[r.Intn(10)]}
	odd := r.Intn(6) == 0
	if v.Kind == api.Truth || odd {
		v.Truth = r.Intn(2) == 0
	}
	if v.Kind == api.Number || odd {
		v.Num = api.Dec{Neg: r.Intn(2) == 0, Digits: []string{"", "0", "10", "012", "700"}[r.Intn(5)], Exp: r.Intn(3)}
	}
	if v.Kind == api.Text || odd {
		v.Text = anyName(r)
	}
	if deep == 0 {
		return v
	}
	if v.Kind == api.List || odd {
		for range r.Intn(4) {
			v.List = append(v.List, anyValue(r, deep-1))
		}
	}
	if v.Kind == api.Object || odd {
		for range r.Intn(5) {
			v.Fields = append(v.Fields, field(anyName(r), anyValue(r, deep-1)))
		}
	}
	return v
}

// pathInto leads, mostly, to something in v, which is in the one form.
func pathInto(r *rand.Rand, v api.Value) api.Path {
	p := api.Path{}
	for r.Intn(5) > 0 {
		switch {
		case r.Intn(12) == 0:
			p.Steps = append(p.Steps, anyStep(r))
			return p
		case v.Kind == api.List && len(v.List) > 0:
			i := r.Intn(len(v.List))
			s := at(i)
			if r.Intn(8) == 0 {
				s = at(i - len(v.List))
			}
			p.Steps, v = append(p.Steps, s), v.List[i]
		case v.Kind == api.Object && len(v.Fields) > 0:
			f := v.Fields[r.Intn(len(v.Fields))]
			p.Steps, v = append(p.Steps, name(strings.ReplaceAll(f.Name, "\ufffd", "\xfe"))), f.Value
		default:
			return p
		}
	}
	return p
}

// model is a value as maps and lists; a leaf is its text.
func model(v api.Value) any {
	switch v.Kind {
	case api.List:
		out := []any{}
		for _, e := range v.List {
			out = append(out, model(e))
		}
		return out
	case api.Object:
		out := map[string]any{}
		for _, f := range v.Fields {
			if _, there := out[said(f.Name)]; !there {
				out[said(f.Name)] = model(f.Value)
			}
		}
		return out
	}
	return json.Print(v)
}

// told tells a model; maps are told by rising names.
func told(m any) string { return fmt.Sprintf("%T %#v", m, m) }

// modelGet is what stands in a model.
func modelGet(m any, steps []api.Step) (any, bool) {
	if len(steps) == 0 {
		return m, true
	}
	s := steps[0]
	switch x := m.(type) {
	case []any:
		i := s.Place
		if i < 0 {
			i = len(x) + i
		}
		if s.IsAt && i >= 0 && i < len(x) {
			return modelGet(x[i], steps[1:])
		}
	case map[string]any:
		if e, there := x[said(s.Name)]; there && !s.IsAt {
			return modelGet(e, steps[1:])
		}
	}
	return nil, false
}

// modelPut gives a new model with x in it.
func modelPut(m any, steps []api.Step, x any) (any, bool) {
	if len(steps) == 0 {
		return x, true
	}
	s := steps[0]
	switch o := m.(type) {
	case []any:
		if !s.IsAt || s.Place >= len(o) {
			return nil, false
		}
		out := slices.Clone(o)
		var ok bool
		out[s.Place], ok = modelPut(o[s.Place], steps[1:], x)
		return out, ok
	case map[string]any:
		if s.IsAt {
			return nil, false
		}
		out := map[string]any{}
		for n, e := range o {
			out[n] = e
		}
		inner, there := o[said(s.Name)]
		if !there {
			inner = map[string]any{}
		}
		var ok bool
		out[said(s.Name)], ok = modelPut(inner, steps[1:], x)
		return out, ok
	}
	return nil, false
}

// plain tells whether something may be put at p.
func plain(p api.Path) bool {
	return !p.Nothing && !p.Context && !slices.ContainsFunc(p.Steps, func(s api.Step) bool { return s.IsAt && s.Place < 0 })
}

// P3.5 to P3.7: the calls against maps and lists.
func TestAgainstAModel(t *testing.T) {
	r := newRand(2)
	got, put := 0, 0
	for range 30000 {
		in, ctx, x := anyValue(r, 4), anyValue(r, 3), anyValue(r, 2)
		p := anyPath(r)
		if r.Intn(4) > 0 {
			p = pathInto(r, json.Norm(in))
		}
		from := in
		if p.Context {
			from = ctx
		}
		v, ok := path.Get(p, in, ctx)
		want, is := modelGet(model(from), p.Steps)
		if p.Nothing {
			want, is = model(api.Value{}), true
		}
		if ok != is || ok && told(model(v)) != told(want) || !identical(v, json.Norm(v)) || !ok && !identical(v, api.Value{}) {
			t.Fatalf("Get(%+v, %s, %s): %s, %v, want %v", p, json.Print(in), json.Print(ctx), json.Print(v), ok, want)
		}
		if path.Plain(p) != plain(p) {
			t.Fatalf("Plain(%+v)", p)
		}
		w, done := path.Put(p, in, x)
		want, is = nil, false
		if plain(p) {
			want, is = modelPut(model(in), p.Steps, model(x))
		}
		if done != is || done && told(model(w)) != told(want) || !identical(w, json.Norm(w)) || !done && !identical(w, api.Value{}) {
			t.Fatalf("Put(%+v, %s, %s): %s, %v, want %v", p, json.Print(in), json.Print(x), json.Print(w), done, want)
		}
		if ok {
			got++
		}
		if done {
			put++
		}
	}
	if got < 5000 || put < 5000 {
		t.Errorf("too few that lead somewhere: %d, %d", got, put)
	}
}

// P3.8: what is told is read as the same.
func TestParseOfText(t *testing.T) {
	r := newRand(3)
	for range 30000 {
		p := anyPath(r)
		s := path.Text(p)
		got, err := path.Parse(s)
		switch {
		case p.Nothing:
			refuses(t, s, 0)
		case len(p.Steps) > api.MaxSteps:
			short := path.Text(api.Path{Context: p.Context, Steps: p.Steps[:64]})
			refuses(t, s, len(short))
		case err != nil || !samePath(got, oneForm(p)):
			t.Fatalf("Parse(%q): %+v, %v, want %+v", s, got, err, oneForm(p))
		}
	}
	for _, s := range []string{"$.a", "$$.a.b[0]", "$", "$$", "$.A-z_09[-1][2147483647].0"} {
		if got := path.Text(parsed(t, s)); got != s {
			t.Errorf("%s: told as %s", s, got)
		}
	}
	for _, place := range []int{math.MaxInt32 + 1, -math.MaxInt32 - 1, math.MaxInt, math.MinInt} {
		if _, err := path.Parse(path.Text(input(at(place)))); err == nil {
			t.Errorf("Parse of the place %d", place)
		}
	}
}

// styled tells a path in one of the ways that there are.
func styled(r *rand.Rand, p api.Path) string {
	var out strings.Builder
	out.WriteString(path.Text(api.Path{Context: p.Context}))
	for _, s := range p.Steps {
		quoted := "['" + strings.NewReplacer(`\`, `\\`, `'`, `\'`).Replace(s.Name) + "']"
		if s.IsAt || r.Intn(2) == 0 {
			quoted = path.Text(api.Path{Steps: []api.Step{s}})[1:]
		}
		out.WriteString(quoted)
	}
	return out.String()
}

// P3.2, P3.8: however a path is told, it is read as the same; told again it is the shortest text in UTF-8.
func TestShortestText(t *testing.T) {
	r := newRand(4)
	for range 20000 {
		p := anyPath(r)
		p.Nothing, p.Steps = false, p.Steps[:min(len(p.Steps), 64)]
		s := styled(r, p)
		got, err := path.Parse(s)
		if err != nil || !samePath(got, oneForm(p)) {
			t.Fatalf("Parse(%q): %+v, %v", s, got, err)
		}
		again := path.Text(got)
		if again != path.Text(p) || !utf8.ValidString(again) || utf8.ValidString(s) && len(again) > len(s) {
			t.Fatalf("%q: told as %q", s, again)
		}
	}
}

// isBeginning tells whether b begins with the steps of a.
func isBeginning(a, b api.Path) bool {
	x, y := oneForm(a).Steps, oneForm(b).Steps
	return len(x) <= len(y) && slices.Equal(x, y[:len(x)])
}

// P3.9
func TestPutThenGet(t *testing.T) {
	r := newRand(5)
	put := 0
	for range 30000 {
		v, x, y := anyValue(r, 4), anyValue(r, 2), anyValue(r, 2)
		p := pathInto(r, json.Norm(v))
		if r.Intn(4) == 0 {
			p = anyPath(r)
		}
		old, there := path.Get(p, v, api.Value{})
		if there && path.Plain(p) {
			if same, ok := path.Put(p, v, old); !ok || !identical(same, json.Norm(v)) {
				t.Fatalf("%+v: what stands there, put: %s, %v", p, json.Print(same), ok)
			}
		}
		w, ok := path.Put(p, v, x)
		if !ok {
			continue
		}
		put++
		if got, is := path.Get(p, w, api.Value{}); !is || !identical(got, json.Norm(x)) {
			t.Fatalf("%+v: put %s, got %s", p, json.Print(x), json.Print(got))
		}
		once, _ := path.Put(p, v, y)
		if twice, is := path.Put(p, w, y); !is || !identical(twice, once) {
			t.Fatalf("%+v: put twice: %s, once: %s", p, json.Print(twice), json.Print(once))
		}
		for range 5 {
			other := pathInto(r, json.Norm(w))
			if !path.Plain(other) || isBeginning(p, other) || isBeginning(other, p) {
				continue
			}
			a, isA := path.Get(other, v, api.Value{})
			b, isB := path.Get(other, w, api.Value{})
			if isA != isB || !identical(a, b) {
				t.Fatalf("%+v: put at %+v: %s, was %s", other, p, json.Print(b), json.Print(a))
			}
		}
	}
	if put < 5000 {
		t.Errorf("too few: %d", put)
	}
}

// lists are all lists of a value, with their spare room.
func lists(v api.Value, values *[][]api.Value, fields *[][]api.Field) {
	*values = append(*values, v.List[:cap(v.List)])
	*fields = append(*fields, v.Fields[:cap(v.Fields)])
	for _, e := range v.List {
		lists(e, values, fields)
	}
	for _, f := range v.Fields {
		lists(f.Value, values, fields)
	}
}

// apart tells whether no two lists of these values share an element.
func apart(vs ...api.Value) bool {
	var values [][]api.Value
	var fields [][]api.Field
	for _, v := range vs {
		lists(v, &values, &fields)
	}
	seenValue, seenField := map[*api.Value]bool{}, map[*api.Field]bool{}
	for _, l := range values {
		for i := range l {
			if seenValue[&l[i]] {
				return false
			}
			seenValue[&l[i]] = true
		}
	}
	for _, l := range fields {
		for i := range l {
			if seenField[&l[i]] {
				return false
			}
			seenField[&l[i]] = true
		}
	}
	return true
}

// R3: what is handed in stays, its spare room too; what is answered is new memory.
func TestNewMemory(t *testing.T) {
	r := newRand(6)
	for range 5000 {
		in, ctx, x := anyValue(r, 4), anyValue(r, 3), anyValue(r, 2)
		p := pathInto(r, json.Norm(in))
		p.Context = r.Intn(8) == 0
		before := fmt.Sprintf("%#v %#v %#v %#v", in, ctx, x, p)
		got, _ := path.Get(p, in, ctx)
		put, _ := path.Put(p, in, x)
		again, _ := path.Put(p, in, x)
		path.Text(p)
		path.Plain(p)
		if fmt.Sprintf("%#v %#v %#v %#v", in, ctx, x, p) != before {
			t.Fatalf("changed: %s", before)
		}
		if !apart(in, ctx, x, got, put, again) {
			t.Fatalf("shared memory: %s", before)
		}
	}
	room := []api.Field{field("b", text("b")), field("z", text("spare"))}
	if _, ok := path.Put(input(name("c")), object(room[:1]...), text("x")); !ok || room[1].Name != "z" {
		t.Errorf("the spare room was written into: %+v", room)
	}
	self := list(text("x"))
	if put, ok := path.Put(input(at(0)), self, self); !ok || !apart(self, put) || json.Print(put) != `[["x"]]` {
		t.Errorf("a value put into itself: %s", json.Print(put))
	}
}

// R4: what Parse answers is its owner's.
func TestParseKeepsNothing(t *testing.T) {
	one, two := parsed(t, "$.a[1].b"), parsed(t, "$.a[1].b")
	one.Steps[0] = name("x")
	_ = append(one.Steps, name("y"))
	three := parsed(t, "$.a[1].b")
	if !samePath(two, input(name("a"), at(1), name("b"))) || !samePath(three, two) {
		t.Errorf("%+v, %+v", two, three)
	}
}
