package dry_test

import (
	"math/rand"
	"reflect"
	"slices"
	"sync"
	"testing"

	"voyage/api"
	"voyage/dry"
	"voyage/json"
)

// room is the memory of a list, its spare room too.
type room struct{ from, to uintptr }

// rooms gives the memory of all lists within something, and within their spare room.
func rooms(things ...any) []room {
	var out []room
	var walk func(v reflect.Value)
	walk = func(v reflect.Value) {
		switch v.Kind() {
		case reflect.Struct:
			for i := range v.NumField() {
				walk(v.Field(i))
			}
		case reflect.Slice:
			if v.Cap() == 0 {
				return
			}
			out = append(out, room{v.Pointer(), v.Pointer() + uintptr(v.Cap())*v.Type().Elem().Size()})
			whole := v.Slice(0, v.Cap())
			for i := range whole.Len() {
				walk(whole.Index(i))
			}
		}
	}
	for _, thing := range things {
		walk(reflect.ValueOf(thing))
	}
	return out
}

// wantOwn wants that no two lists of an answer share memory, and none with what was handed in.
func wantOwn(t *testing.T, what string, answer any, handed ...any) {
	t.Helper()
	type owned struct {
		room
		answered bool
	}
	var all []owned
	for _, r := range rooms(answer) {
		all = append(all, owned{r, true})
	}
	for _, r := range rooms(handed...) {
		all = append(all, owned{r, false})
	}
	slices.SortFunc(all, func(a, b owned) int { return int(a.from) - int(b.from) })
	reach := owned{}
	for _, x := range all {
		if x.from < reach.to && (x.answered || reach.answered) {
			t.Fatalf("%s: lists share memory", what)
		}
		if x.to > reach.to {
			reach = x
		}
	}
}

// roomy gives a copy of something all of whose lists have spare room, with something in it.
func roomy[T any](thing T) T {
	makeRoomy(reflect.ValueOf(&thing).Elem())
	return thing
}

func makeRoomy(v reflect.Value) {
	switch v.Kind() {
	case reflect.Struct:
		for i := range v.NumField() {
			makeRoomy(v.Field(i))
		}
	case reflect.Slice:
		n := v.Len()
		list := reflect.MakeSlice(v.Type(), n+2, n+2)
		reflect.Copy(list, v)
		for i := range n {
			makeRoomy(list.Index(i))
		}
		for i := n; i < n+2; i++ {
			mark(list.Index(i))
		}
		v.Set(list.Slice(0, n))
	}
}

// mark fills something with what is easily told from all else.
func mark(v reflect.Value) {
	switch v.Kind() {
	case reflect.Struct:
		for i := range v.NumField() {
			mark(v.Field(i))
		}
	case reflect.Int, reflect.Int64:
		v.SetInt(77)
	case reflect.String:
		v.SetString("spare")
	case reflect.Bool:
		v.SetBool(true)
	}
}

// whole gives a copy of something all of whose lists are as long as their room was.
func whole[T any](thing T) T {
	makeWhole(reflect.ValueOf(&thing).Elem())
	return thing
}

func makeWhole(v reflect.Value) {
	switch v.Kind() {
	case reflect.Struct:
		for i := range v.NumField() {
			makeWhole(v.Field(i))
		}
	case reflect.Slice:
		list := reflect.MakeSlice(v.Type(), v.Cap(), v.Cap())
		reflect.Copy(list, v.Slice(0, v.Cap()))
		for i := range list.Len() {
			makeWhole(list.Index(i))
		}
		v.Set(list)
	}
}

// spoil writes over all lists of something, their spare room too.
func spoil(v reflect.Value) {
	switch v.Kind() {
	case reflect.Struct:
		for i := range v.NumField() {
			spoil(v.Field(i))
		}
	case reflect.Slice:
		list := v.Slice(0, v.Cap())
		for i := range list.Len() {
			spoil(list.Index(i))
			mark(list.Index(i))
		}
	}
}

// args are what Run is handed, answers what it answers.
type args struct {
	M api.Machine
	I api.Value
	L []api.Answer
	W []api.Winner
}

type answers struct {
	R api.Report
	C []api.Contest
}

func (a args) run(fuel int) answers {
	r, c := dry.Run(a.M, a.I, a.L, a.W, fuel)
	return answers{r, c}
}

// checkMemory holds P16.3 of one run: it gives what was answered.
func checkMemory(t *testing.T, g given) answers {
	t.Helper()
	plain := args{g.m, g.in, g.l, g.w}
	want := plain.run(g.fuel)
	a := roomy(plain)
	was := whole(a)
	got := a.run(g.fuel)
	if !same(whole(a), was) {
		t.Fatal("what was handed in is another")
	}
	if !same(got, want) {
		t.Fatal("spare room changes what is answered")
	}
	wantOwn(t, "Run", got, a)
	wantOwn(t, "Run twice", got, want)
	wantGot := whole(got)
	spoil(reflect.ValueOf(&a).Elem())
	if !same(whole(got), wantGot) {
		t.Fatal("an answer changes with what was handed in")
	}
	spoil(reflect.ValueOf(&got).Elem())
	if again := roomy(plain).run(g.fuel); !same(again, want) {
		t.Fatal("an answer hangs on what was answered ahead of it")
	}
	return want
}

// TestMemory holds P16.3: what is handed in is neither changed nor kept, what is answered is new memory, of each list its own; spare room too.
func TestMemory(t *testing.T) {
	r := rand.New(rand.NewSource(25))
	lists, contests := 0, 0
	for range 300 {
		got := checkMemory(t, randomGiven(r))
		if got.R.Fine && len(rooms(got.R)) > 2 {
			lists++
		}
		if len(got.C) > 1 {
			contests++
		}
	}
	if lists < 30 || contests < 20 {
		t.Errorf("too few: %d, %d", lists, contests)
	}
}

// TestOwnMemory holds P16.3 where an answer tells many times what was handed in once: the input as that of all parts, an item, a Fixed, an outcome.
func TestOwnMemory(t *testing.T) {
	in := `[[1,2],{"a":[3]},[[4]]]`
	fixed := pass("F", "")
	fixed.HasFixed, fixed.Fixed = true, val(in)
	ctx := pass("A", "")
	ctx.Input = way("$$.Execution.Input")
	for _, s := range []api.State{pass("A", ""), {Name: "S", Type: api.Succeed}, fixed, ctx, {Name: "W", Type: api.Wait, WaitKind: 1}, task("T", ""), parallel("P", "", passing(), passing(), machine(fixed), machine(task("T", ""))), mapped("M", "", 0, passing()), mapped("M", "", 0, machine(parallel("P", "", machine(ctx), passing(), machine(task("T", "")))))} {
		got := checkMemory(t, of(machine(s), in).answers(answer("rT", 0, fine(in))))
		if !got.R.Fine || len(rooms(got.R)) < 6 {
			t.Errorf("%s: %s", s.Name, shown(got.R, got.C))
		}
	}
	bad := parallel("P", "", failing("e"), failing("f"), machine(parallel("Q", "", failing("e"), failing("g"))), api.Machine{Start: "s", States: []api.State{mapped("s", "", 2, failsAt(1, 2, 3))}})
	bad.Retry = []api.Retrier{retries(3, all)}
	got := checkMemory(t, of(machine(bad), "[1,2,3,4]").winners(winner(2, 1, 2), winner(1, 1, 1, 2, 1, 1)))
	if len(got.C) != 12 {
		t.Errorf("contests: %s", shown(got.R, got.C))
	}
}

// TestOutputSound holds P16.3: what a fine end gives is sound, and in the one form.
func TestOutputSound(t *testing.T) {
	r := rand.New(rand.NewSource(23))
	ends := 0
	for range 800 {
		report, _ := randomGiven(r).run()
		if !report.Fine {
			continue
		}
		ends++
		if !same(report.Output, json.Norm(report.Output)) || json.Depth(report.Output) > api.MaxDepth || len(json.Print(report.Output)) > api.MaxText {
			t.Fatalf("the output: %s", shown(report, nil))
		}
	}
	if ends < 80 {
		t.Errorf("too few: %d", ends)
	}
	m := row(70)
	for i := range m.States {
		m.States[i].HasParameters, m.States[i].Parameters = true, val(`{"a.$":"$"}`)
	}
	wants(t, "as deep as may be, and one deeper", of(m, "1").fuelled(70), ended(limit, 65))
}

// TestSideBySide holds R4: calls that run side by side with the same arguments know nothing of one another.
func TestSideBySide(t *testing.T) {
	r := rand.New(rand.NewSource(24))
	g := randomGiven(r)
	for _, c := g.run(); len(c) < 3; _, c = g.run() {
		g = randomGiven(r)
	}
	want, wantContests := g.run()
	var all sync.WaitGroup
	for range 8 {
		all.Go(func() {
			for range 50 {
				report, contests := g.run()
				if !same(report, want) || !same(contests, wantContests) {
					t.Error("side by side")
					return
				}
				spoil(reflect.ValueOf(&report).Elem())
				spoil(reflect.ValueOf(&contests).Elem())
			}
		})
	}
	all.Wait()
}
