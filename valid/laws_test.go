package valid_test

import (
	"math"
	"math/rand"
	"reflect"
	"regexp"
	"slices"
	"strconv"
	"strings"
	"sync"
	"testing"
	"unicode/utf8"

	"voyage/api"
	"voyage/def"
	"voyage/json"
	"voyage/valid"
)

// maker makes machines.
type maker struct{ *rand.Rand }

func newMaker(seed int64) maker { return maker{rand.New(rand.NewSource(seed))} }

func oneOf[T any](r maker, from ...T) T { return from[r.Intn(len(from))] }

// some tells whether something rare is so.
func (r maker) some() bool { return r.Intn(12) == 0 }

// name is one of few, so that they meet.
func (r maker) name() string {
	if r.some() {
		return oneOf(r, "", "x y", "it's", `\`, "\xff", "\xfe", "\ufffd", "none")
	}
	return oneOf(r, "a", "b", "c", "d")
}

// number is one about the bounds.
func (r maker) number() int {
	if r.Intn(3) > 0 {
		return oneOf(r, 1, 2, 5)
	}
	return oneOf(r, -1, 0, 98, 99, 100, 2147483646, 2147483647, 2147483648, math.MaxInt, math.MinInt)
}

func (r maker) rate() api.Dec {
	if r.Intn(3) > 0 {
		return number("15", -1)
	}
	return oneOf(r, api.Dec{}, number("1", 0), number("010", -1), number("9", -1), number("1", 3), number("10001", -1), number("1", 4), number("1", 10000), api.Dec{Neg: true, Digits: "2"}, number("x7", 0))
}

func (r maker) errors() []string {
	var names []string
	for range oneOf(r, 0, 1, 1, 1, 2, 3) {
		names = append(names, oneOf(r, "e", "f", "States.ALL", "States.Timeout", "\xff"))
	}
	return names
}

func (r maker) rule(deep int) api.Rule {
	s := api.Rule{Op: oneOf(r, 1, 2, 3, 37, 4, 0), Next: r.name()}
	if r.some() {
		s.Op = oneOf(r, -1, 43, 99)
	}
	for range oneOf(r, 0, 1, 1, 2) * min(deep, 1) {
		s.All = append(s.All, r.rule(deep-1))
	}
	return s
}

// state has all that any state may have, whatever its type is.
func (r maker) state(deep int) api.State {
	s := api.State{Name: r.name(), Type: 1 + r.Intn(8), Next: r.name(), Default: r.name(), Seconds: r.number(), WaitKind: 1 + r.Intn(4), Most: r.number()}
	if r.some() {
		s.Type = oneOf(r, -1, 0, 9, 100)
	}
	if r.some() {
		s.WaitKind = oneOf(r, -1, 0, 5, 6)
	}
	if r.Intn(3) == 0 {
		s.Next, s.Default = "", ""
	}
	for range r.Intn(3) {
		s.Retry = append(s.Retry, api.Retrier{Errors: r.errors(), Interval: r.number(), Most: r.number(), Rate: r.rate(), MaxDelay: r.number()})
	}
	for range r.Intn(3) {
		s.Catch = append(s.Catch, api.Catcher{Errors: r.errors(), Next: r.name()})
	}
	for range r.Intn(4) {
		s.Rules = append(s.Rules, r.rule(3))
	}
	for range r.Intn(3) * min(deep, 1) {
		s.Parts = append(s.Parts, r.machine(deep-1))
	}
	return s
}

func (r maker) machine(deep int) api.Machine {
	m := api.Machine{Start: r.name()}
	for range r.Intn(6) {
		m.States = append(m.States, r.state(deep))
	}
	return m
}

// agrees wants that Check finds what the model finds, and gives that.
func agrees(t *testing.T, m api.Machine) []string {
	t.Helper()
	got, want := told(t, valid.Check(m)), modelFaults(m)
	if !slices.Equal(got, want) {
		t.Fatalf("%+v:\n%s, want\n%s", m, strings.Join(got, "\n"), strings.Join(want, "\n"))
	}
	return got
}

// P9.1 to P9.4: any machines, against the model.
func TestAgainstAModel(t *testing.T) {
	r := newMaker(1)
	met := map[string]int{}
	last := regexp.MustCompile(` .*?([A-Za-z]*)[^A-Za-z]*$`)
	for range 20000 {
		for _, line := range agrees(t, r.machine(2)) {
			met[last.ReplaceAllString(line, " $1")]++
		}
	}
	for _, line := range []string{"ErrTarget StartAt", "ErrTarget Next", "ErrTarget Default", "ErrRange Type", "ErrRange IntervalSeconds", "ErrRange MaxAttempts", "ErrRange BackoffRate", "ErrRange MaxDelaySeconds", "ErrRange ErrorEquals", "ErrOrder ErrorEquals", "ErrOrder Retry", "ErrOrder Catch", "ErrRange Choices", "ErrRange And", "ErrRange Or", "ErrRange Not", "ErrRange Seconds", "ErrRange Branches", "ErrRange MaxConcurrency", "ErrLacks Iterator", "ErrTwice a", "ErrReach a", "ErrRange a"} {
		if met[line] < 100 {
			t.Errorf("%s: too few: %d", line, met[line])
		}
	}
}

// fine is a machine without faults: each state but the first is led to by one ahead of it, and each leads to one behind it, or ends; other ways go anywhere.
func (r maker) fine(deep int) api.Machine {
	names := []string{"a", "b", "c d", "it's", "é", "\u2028", "-", "0"}
	r.Shuffle(len(names), func(i, j int) { names[i], names[j] = names[j], names[i] })
	names = names[:1+r.Intn(6)]
	m := api.Machine{Start: names[0]}
	for _, name := range names {
		m.States = append(m.States, api.State{Name: name, Type: oneOf(r, api.Succeed, api.Fail)})
	}
	for i := len(names) - 1; i > 0; i-- {
		r.lead(&m.States[r.Intn(i)], names[i], names, deep)
	}
	for i := range m.States {
		switch s := &m.States[i]; {
		case has(*s, "e") && r.Intn(2) == 0:
			s.Type, s.WaitKind = oneOf(r, api.Pass, api.Task, api.Wait), 1+r.Intn(4)
		case has(*s, "c") || has(*s, "t"):
			r.lead(s, oneOf(r, names...), names, deep)
		}
	}
	r.Shuffle(len(m.States), func(i, j int) { m.States[i], m.States[j] = m.States[j], m.States[i] })
	return m
}

// lead makes a state lead to one of this name, too; the ways that it had stay.
func (r maker) lead(s *api.State, to string, names []string, deep int) {
	switch {
	case has(*s, "e"):
		s.Type = oneOf(r, api.Pass, api.Task, api.Choice, api.Wait, api.Parallel, api.Map)
		if deep == 0 && s.Type > api.Fail {
			s.Type = api.Task
		}
		s.Next, s.WaitKind = to, 1+r.Intn(4)
		if s.Type == api.Choice {
			s.Rules = []api.Rule{r.fineRule(to, 3)}
		}
		for range 1 + r.Intn(2) {
			if s.Type > api.Fail {
				s.Parts = append(s.Parts, r.fine(deep-1))
			}
		}
	case has(*s, "c") && s.Default == "" && r.some():
		s.Default = to
	case has(*s, "c"):
		s.Rules = append(s.Rules, r.fineRule(oneOf(r, names...), 3), r.fineRule(to, 3))
	case has(*s, "t"):
		s.Catch = append(s.Catch, api.Catcher{Errors: []string{"e", "f"}, Next: to})
		s.Retry = append(s.Retry, retrier("g"))
	default: // it has one way alone: what it led to is led to by a Choice in its place
		s.Type, s.Rules = api.Choice, []api.Rule{r.fineRule(to, 2)}
		if s.Next != "" {
			s.Rules = append(s.Rules, r.fineRule(s.Next, 0))
		}
	}
}

func (r maker) fineRule(next string, deep int) api.Rule {
	s := api.Rule{Op: oneOf(r, 1, 2, 3, 37), Next: next}
	if deep == 0 {
		s.Op = 37
	}
	n := map[int]int{1: 1 + r.Intn(2), 2: 1 + r.Intn(2), 3: 1}[s.Op]
	for range n {
		s.All = append(s.All, r.fineRule("", deep-1))
	}
	return s
}

// leads gives the names of all states that a state may go on to, as one who runs it would; and whether it may end there.
func leads(s api.State) (names []string, ends bool) {
	switch s.Type {
	case api.Succeed, api.Fail:
		return nil, true
	case api.Choice:
		for _, r := range s.Rules {
			names = append(names, r.Next)
		}
		if s.Default != "" {
			names = append(names, s.Default)
		}
		return names, false
	case api.Task, api.Parallel, api.Map:
		for _, c := range s.Catch {
			names = append(names, c.Next)
		}
	}
	if s.Next == "" {
		return names, true
	}
	return append(names, s.Next), false
}

// goesOn wants of each state of a machine and of its parts that one comes to no state that isn't there, by whatever way, and that there is a way to an end.
func goesOn(t *testing.T, m api.Machine) {
	t.Helper()
	if _, is := def.Find(m, m.Start); !is {
		t.Fatalf("%s: no start", json.Print(def.Print(m)))
	}
	for _, from := range m.States {
		met, row, ended := map[string]int{from.Name: 1}, []string{from.Name}, false
		for len(row) > 0 {
			s, is := def.Find(m, row[0])
			if row = row[1:]; !is {
				t.Fatalf("%s: from %q one comes to a state that isn't there", json.Print(def.Print(m)), from.Name)
			}
			names, ends := leads(s)
			ended = ended || ends
			for _, name := range names {
				if met[name]++; met[name] == 1 {
					row = append(row, name)
				}
			}
		}
		if !ended {
			t.Fatalf("%s: from %q no end", json.Print(def.Print(m)), from.Name)
		}
		switch from.Type {
		case api.Map:
			goesOn(t, from.Parts[0])
		case api.Parallel:
			for _, part := range from.Parts {
				goesOn(t, part)
			}
		}
	}
}

// P9.6: machines without faults; a machine of which the walk says otherwise has one.
func TestGoesOn(t *testing.T) {
	goesOn(t, machine(wide))
	r := newMaker(2)
	met := map[int]int{}
	for range 5000 {
		m := r.fine(2)
		if lines := agrees(t, m); lines != nil {
			t.Fatalf("%s: %v", json.Print(def.Print(m)), lines)
		}
		goesOn(t, m)
		for _, s := range m.States {
			met[s.Type]++
		}
	}
	for kind := 1; kind <= 8; kind++ {
		if met[kind] < 300 {
			t.Errorf("too few: %v", met)
		}
	}
	plain := 0
	for range 60000 {
		m := r.machine(0)
		if valid.Check(m) == nil {
			goesOn(t, m)
			plain++
		}
	}
	if plain < 300 {
		t.Errorf("too few without faults: %d", plain)
	}
}

// spoil changes one thing of a machine without faults, anywhere in it.
func (r maker) spoil(m *api.Machine) {
	if r.Intn(8) == 0 {
		m.Start = oneOf(r, "a", "none", "")
		return
	}
	i := r.Intn(len(m.States))
	s := &m.States[i]
	if len(s.Parts) > 0 && r.Intn(3) > 0 {
		r.spoil(&s.Parts[r.Intn(len(s.Parts))])
		return
	}
	switch r.Intn(9) {
	case 0:
		s.Next = oneOf(r, "", "a", "none", s.Name)
	case 1:
		s.Type = oneOf(r, 0, 1, 2, 3, 4, 5, 6, 7, 8, 9)
	case 2:
		s.Name = oneOf(r, "a", "b", "new")
	case 3:
		m.States = slices.Delete(m.States, i, i+1)
	case 4:
		s.Parts = nil
	case 5:
		s.Retry = append(s.Retry, retrier(r.errors()...), retrier("e"))
	case 6:
		s.Catch = append(s.Catch, api.Catcher{Errors: r.errors(), Next: oneOf(r, s.Name, "a", "none")})
	case 7:
		s.Rules = append(s.Rules, r.rule(2))
	case 8:
		s.WaitKind, s.Seconds, s.Most = oneOf(r, 0, 1, 5), r.number(), r.number()
	}
}

// P9.1 to P9.4, P9.6: machines that have few faults, against the model.
func TestSpoiled(t *testing.T) {
	r := newMaker(3)
	sound, few := 0, 0
	for range 20000 {
		m := r.fine(2)
		r.spoil(&m)
		switch lines := agrees(t, m); {
		case len(lines) == 0:
			sound++
			goesOn(t, m)
		case len(lines) < 4:
			few++
		}
	}
	if sound < 1000 || few < 5000 {
		t.Errorf("too few: %d, %d", sound, few)
	}
}

var stepText = regexp.MustCompile(`(?s)^(?:\.([A-Za-z0-9_-]+)|\['((?:[^'\\]|\\.)*)'\]|\[([0-9]+)\])`)

// stands tells whether a place leads somewhere in a value: it has more steps than a path may have.
func stands(v api.Value, where string) bool {
	rest, is := strings.CutPrefix(where, "$")
	for is && rest != "" {
		parts := stepText.FindStringSubmatch(rest)
		if parts == nil {
			return false
		}
		rest = rest[len(parts[0]):]
		if parts[3] != "" {
			i, _ := strconv.Atoi(parts[3])
			if is = v.Kind == api.List && i < len(v.List); is {
				v = v.List[i]
			}
			continue
		}
		name := parts[1] + strings.NewReplacer(`\'`, `'`, `\\`, `\`).Replace(parts[2])
		i := slices.IndexFunc(v.Fields, func(f api.Field) bool { return f.Name == name })
		if is = v.Kind == api.Object && i >= 0; is {
			v = v.Fields[i].Value
		}
	}
	return is
}

// inUTF8 tells whether all states' names are that.
func inUTF8(m api.Machine) bool {
	for _, s := range m.States {
		if !utf8.ValidString(s.Name) || slices.ContainsFunc(s.Parts, func(m api.Machine) bool { return !inUTF8(m) }) {
			return false
		}
	}
	return true
}

// P9.7: each place leads somewhere in what def.Print tells, but for those of what is lacking or too deep.
func TestPlaces(t *testing.T) {
	r := newMaker(4)
	met := 0
	look := func(m api.Machine) {
		v := def.Print(m)
		for _, f := range valid.Check(m) {
			if !utf8.ValidString(f.Where) {
				t.Fatalf("%q", f.Where)
			}
			if f.Err == api.ErrLacks || f.Err == api.ErrDeep {
				continue
			}
			if met++; !stands(v, f.Where) {
				t.Fatalf("%s: nothing at %s: %v", json.Print(v), f.Where, f.Err)
			}
		}
	}
	for range 20000 {
		if m := r.machine(2); inUTF8(m) {
			look(m)
		}
	}
	if met < 20000 {
		t.Errorf("too few: %d", met)
	}
	bad := of(api.State{Name: "it's", Type: api.Choice, Rules: []api.Rule{{Op: 3}, {Op: 3, All: []api.Rule{{Op: 1}, {Op: 2}}}}, Default: "none"}, api.State{Name: `\`, Type: api.Wait})
	for n := range 64 {
		look(nested(bad, slices.Repeat([]int{api.Map}, n)...))
		look(nested(bad, slices.Repeat([]int{api.Parallel}, n)...))
	}
	if v := def.Print(bad); stands(v, "$.States.a") || stands(v, "$.States[0]") || stands(v, "x") || stands(v, `$.States['it\'s'].Choices[2]`) || !stands(v, `$.States['it\'s'].Choices[1].Not.And`) {
		t.Error("stands")
	}
}

// copied is a copy of its own, in which each list has spare room with something in it.
func copied[T any](x T) T {
	var walk func(v reflect.Value)
	walk = func(v reflect.Value) {
		switch v.Kind() {
		case reflect.Slice:
			n := v.Len()
			fresh := reflect.MakeSlice(v.Type(), n+2, n+2)
			reflect.Copy(fresh, v)
			for i := range n {
				walk(fresh.Index(i))
			}
			if n > 0 {
				fresh.Index(n).Set(fresh.Index(0))
			}
			v.Set(fresh.Slice(0, n))
		case reflect.Struct:
			for i := range v.NumField() {
				walk(v.Field(i))
			}
		}
	}
	walk(reflect.ValueOf(&x).Elem())
	return x
}

// unlike tells whether two machines differ, in the spare room of their lists, too.
func unlike(a, b api.Machine) bool {
	var walk func(a, b reflect.Value) bool
	walk = func(a, b reflect.Value) bool {
		switch a.Kind() {
		case reflect.Slice:
			if a.Len() != b.Len() || a.Cap() != b.Cap() {
				return true
			}
			a, b = a.Slice(0, a.Cap()), b.Slice(0, b.Cap())
			for i := range a.Len() {
				if walk(a.Index(i), b.Index(i)) {
					return true
				}
			}
			return false
		case reflect.Struct:
			for i := range a.NumField() {
				if walk(a.Field(i), b.Field(i)) {
					return true
				}
			}
			return false
		}
		return !a.Equal(b)
	}
	return walk(reflect.ValueOf(a), reflect.ValueOf(b))
}

// P9.5: a machine stays as it is, its lists' spare room too; and what was answered stays, whatever becomes of the machine and of other answers.
func TestMemory(t *testing.T) {
	r := newMaker(5)
	for range 80 {
		m := copied(r.machine(2))
		before := copied(m)
		if unlike(m, before) {
			t.Fatal("copied")
		}
		first := valid.Check(m)
		if unlike(m, before) {
			t.Fatalf("%+v, was %+v", m, before)
		}
		want := told(t, first)
		second := valid.Check(m)
		spare := second[:cap(second)]
		for i := range spare {
			spare[i] = api.Fault{At: 7, Where: "gone", Err: api.ErrDown}
		}
		for i := range m.States {
			m.States[i] = api.State{Name: "gone"}
		}
		if !slices.Equal(told(t, first), want) || !slices.Equal(told(t, valid.Check(before)), want) {
			t.Fatalf("%v, want %v", first, want)
		}
	}
}

// P9.5, R4: calls at one time know nothing of each other, and any of them answers the same.
func TestAtOneTime(t *testing.T) {
	r := newMaker(6)
	for range 100 {
		m := r.machine(2)
		want := modelFaults(m)
		answers := make([][]api.Fault, 8)
		var all sync.WaitGroup
		for i := range answers {
			all.Go(func() { answers[i] = valid.Check(m) })
		}
		all.Wait()
		for _, faults := range answers {
			if !slices.Equal(told(t, faults), want) {
				t.Fatalf("%v, want %v", faults, want)
			}
		}
	}
}

// R3: a nil list and an empty one are the same.
func TestEmptyLists(t *testing.T) {
	r := newMaker(7)
	for range 1000 {
		m := r.machine(1)
		if filled := copied(m); !slices.Equal(told(t, valid.Check(m)), told(t, valid.Check(filled))) {
			t.Fatalf("%+v", m)
		}
	}
}
