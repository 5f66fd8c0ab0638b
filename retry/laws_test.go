package retry_test

import (
	"math"
	"math/rand"
	"reflect"
	"slices"
	"sync"
	"testing"

	"voyage/api"
	"voyage/retry"
)

// words are few names, so that they meet.
func words() []string {
	return list("a", "b", "", all, taskFailed, timeout, outOfFuel, runtime, "\xff", "\ufffd", "States.AL", "States.TaskFaile")
}

// everyNames gives all lists of up to n words.
func everyNames(n int) [][]string {
	lists := [][]string{nil}
	last := lists
	for range n {
		var longer [][]string
		for _, l := range last {
			for _, w := range words() {
				longer = append(longer, append(slices.Clone(l), w))
			}
		}
		lists, last = append(lists, longer...), longer
	}
	return lists
}

// maker makes retriers, catchers and charges.
type maker struct{ *rand.Rand }

func newMaker(seed int64) maker { return maker{rand.New(rand.NewSource(seed))} }

func oneOf[T any](r maker, from ...T) T { return from[r.Intn(len(from))] }

// spacious gives the list in memory with spare room that is told from nought.
func spacious[T any](l []T, filled T) []T {
	with := append(slices.Clone(l), filled, filled)
	return with[:len(l)]
}

func (r maker) name() string { return oneOf(r, words()...) }

func (r maker) names() []string {
	l := []string{}
	for range r.Intn(4) {
		l = append(l, r.name())
	}
	return spacious(l, "spare")
}

// most is often small, so that charges meet it.
func (r maker) most() int {
	if r.Intn(4) > 0 {
		return r.Intn(4)
	}
	return oneOf(r, -2, -1, 99, math.MaxInt, math.MinInt)
}

func (r maker) retriers() []api.Retrier {
	l := []api.Retrier{}
	for range r.Intn(5) {
		l = append(l, api.Retrier{
			Errors:   r.names(),
			Interval: oneOf(r, -1, 0, 1, 2, 7, 1000, math.MaxInt, math.MinInt),
			Most:     r.most(),
			Rate:     oneOf(r, api.Dec{}, rate("1", 0), rate("15", -1), rate("2", 0), rate("333", -2), rate("1", 3), rate("1", 5), rate("5", -1), api.Dec{Neg: true, Digits: "2"}),
			MaxDelay: oneOf(r, 0, 0, -1, 1, 5, 100, math.MaxInt, math.MinInt),
		})
	}
	return spacious(l, api.Retrier{Errors: list("spare"), Most: 7})
}

func (r maker) catchers() []api.Catcher {
	l := []api.Catcher{}
	for range r.Intn(5) {
		l = append(l, api.Catcher{Errors: r.names(), Next: r.name(), Result: api.Path{Set: true, Steps: []api.Step{{Name: "x"}}}})
	}
	return spacious(l, api.Catcher{Errors: list("spare")})
}

func (r maker) charged() []int {
	l := []int{}
	for range r.Intn(6) {
		n := r.Intn(4)
		if r.Intn(5) == 0 {
			n = oneOf(r, -1, -5, 98, 99, 100, math.MaxInt-1, math.MaxInt, math.MinInt)
		}
		l = append(l, n)
	}
	return spacious(l, 77)
}

func (r maker) place() int {
	if r.Intn(5) > 0 {
		return r.Intn(8)
	}
	return oneOf(r, -1, -2, 65535, 65536, 65537, math.MaxInt, math.MinInt)
}

// TestMatchesEveryFewNames holds P10.1 against the model, and what follows of it (P10.5), at all lists of up to three names.
func TestMatchesEveryFewNames(t *testing.T) {
	for _, names := range everyNames(3) {
		for _, name := range words() {
			got := retry.Matches(names, name)
			if got != modelMatches(names, name) {
				t.Fatalf("Matches(%q, %q): %v", names, name, got)
			}
			if got && !retry.Matches(list(all), name) {
				t.Fatalf("%q match %q, %s doesn't", names, name, all)
			}
			if len(names) == 0 || !retry.Matches(names[1:], name) {
				continue
			}
			if turned := slices.Concat(names[1:], names[:1]); !got || !retry.Matches(turned, name) {
				t.Fatalf("%q match %q, with one more they don't", names[1:], name)
			}
		}
	}
}

// TestAgainstTheModel holds P10.2 to P10.4.
func TestAgainstTheModel(t *testing.T) {
	r := newMaker(1)
	for range 60000 {
		l, catchers, charged, name, place := r.retriers(), r.catchers(), r.charged(), r.name(), r.place()
		checkRetry(t, l, charged, name, modelRetry(l, charged, name))
		if t.Failed() {
			return
		}
		at, ok := retry.Catch(catchers, name)
		if got := (given{at, 0, ok}); got != modelCatch(catchers, name) {
			t.Fatalf("Catch(%v, %q): %v", catchers, name, got)
		}
		if place > 100 && r.Intn(10) > 0 {
			continue // the model takes long where charges grow far
		}
		if got := retry.Charge(charged, place); !slices.Equal(got, modelCharge(charged, place)) {
			t.Fatalf("Charge(%v, %d): %v", charged, place, got)
		}
	}
}

// TestAsOftenAsMostSays holds P10.5: a retrier that is charged each time takes a name Most times, its delays never fall.
func TestAsOftenAsMostSays(t *testing.T) {
	r := newMaker(2)
	for range 4000 {
		l, name := r.retriers(), r.name()
		charged, first := make([]int, len(l)), asked(l, nil, name)
		taken, last := 0, int64(0)
		for taken < 300 {
			g := asked(l, charged, name)
			if !g.ok {
				break
			}
			if g.place != first.place || g.delay < last {
				t.Fatalf("Retry(%v, %v, %q): %v, behind %d", l, charged, name, g, last)
			}
			charged, taken, last = retry.Charge(charged, g.place), taken+1, g.delay
		}
		checkTaken(t, l, name, taken)
	}
}

func checkTaken(t *testing.T, l []api.Retrier, name string, taken int) {
	t.Helper()
	decides := slices.IndexFunc(l, func(x api.Retrier) bool { return modelMatches(x.Errors, name) })
	want := 0
	if decides >= 0 {
		want = min(max(l[decides].Most, 0), 300)
	}
	if taken != want {
		t.Fatalf("%v take %q %d times", l, name, taken)
	}
}

// TestOthersStayUncharged holds that a charge is that of one retrier: names of others are taken as before.
func TestOthersStayUncharged(t *testing.T) {
	l := []api.Retrier{
		{Errors: list("a"), Interval: 1, Most: 2, Rate: rate("2", 0)},
		{Errors: list("b"), Interval: 1, Most: 3, Rate: rate("3", 0)},
	}
	charged := make([]int, len(l))
	for _, x := range []struct {
		name string
		want given
	}{
		{"a", given{0, 1, true}},
		{"b", given{1, 1, true}},
		{"b", given{1, 3, true}},
		{"a", given{0, 2, true}},
		{"a", given{}},
		{"b", given{1, 9, true}},
		{"b", given{}},
		{"a", given{}},
	} {
		checkRetry(t, l, charged, x.name, x.want)
		if x.want.ok {
			charged = retry.Charge(charged, x.want.place)
		}
	}
	if !slices.Equal(charged, list(2, 3)) {
		t.Errorf("charged %v", charged)
	}
}

// TestWhatIsBehind holds P10.5: what stands behind the one that decides doesn't matter.
func TestWhatIsBehind(t *testing.T) {
	r := newMaker(3)
	for range 20000 {
		l, catchers, charged, name := r.retriers(), r.catchers(), r.charged(), r.name()
		others, otherCatchers := r.retriers(), r.catchers()
		if i := slices.IndexFunc(l, func(x api.Retrier) bool { return modelMatches(x.Errors, name) }); i >= 0 {
			short := charged[:min(i+1, len(charged))]
			checkRetry(t, slices.Concat(l[:i+1], others), slices.Concat(short, make([]int, i+1-len(short)), r.charged()), name, asked(l, charged, name))
		}
		if t.Failed() {
			return
		}
		if i, ok := retry.Catch(catchers, name); ok {
			at, ok := retry.Catch(slices.Concat(catchers[:i+1], otherCatchers), name)
			if at != i || !ok {
				t.Fatalf("Catch(%v, %q) hangs on what is behind", catchers, name)
			}
		}
	}
}

// whole gives a list with its spare room.
func whole[T any](l []T) []T { return l[:cap(l)] }

// kept is what was handed in, with its spare room, and a copy of it.
type kept struct {
	l        []api.Retrier
	catchers []api.Catcher
	charged  []int
}

func (k kept) copied() kept {
	c := kept{slices.Clone(whole(k.l)), slices.Clone(whole(k.catchers)), slices.Clone(whole(k.charged))}
	for i := range c.l {
		c.l[i].Errors = slices.Clone(whole(c.l[i].Errors))
	}
	for i := range c.catchers {
		c.catchers[i].Errors = slices.Clone(whole(c.catchers[i].Errors))
		c.catchers[i].Result.Steps = slices.Clone(c.catchers[i].Result.Steps)
	}
	return c
}

// TestMemory holds R3: what is handed in stays, its spare room too; what Charge answers is new memory.
func TestMemory(t *testing.T) {
	r := newMaker(4)
	for range 10000 {
		in, name, place := kept{r.retriers(), r.catchers(), r.charged()}, r.name(), r.Intn(10)-1
		was := in.copied()
		asked(in.l, in.charged, name)
		retry.Catch(in.catchers, name)
		for i := range in.l {
			retry.Matches(in.l[i].Errors, name)
		}
		got := retry.Charge(in.charged, place)
		want := slices.Clone(got)
		if !reflect.DeepEqual(was, in.copied()) {
			t.Fatalf("what was handed in is another: %v", in)
		}
		spoil(in.charged)
		if !slices.Equal(got, want) {
			t.Fatalf("Charge(%v, %d) changes with what was handed in", was.charged, place)
		}
		spoilt := slices.Clone(whole(in.charged))
		spoil(got)
		if again := retry.Charge(was.charged, place); !slices.Equal(whole(in.charged), spoilt) || slices.Contains(again, spoilNumber) {
			t.Fatalf("Charge(%v, %d) shares memory", was.charged, place)
		}
	}
}

const spoilNumber = -424242

func spoil(l []int) {
	for i := range whole(l) {
		whole(l)[i] = spoilNumber
	}
}

// TestNothingIsKept holds R4: what was asked before doesn't matter, nor who else asks.
func TestNothingIsKept(t *testing.T) {
	r := newMaker(5)
	in := kept{r.retriers(), r.catchers(), list(0, 1, -1, 2)}
	in.l = append(in.l, api.Retrier{Errors: list(all), Interval: 3, Most: 9, Rate: rate("2", 0)})
	var group sync.WaitGroup
	for range 8 {
		group.Add(1)
		go func() {
			defer group.Done()
			for _, name := range slices.Concat(words(), words()) {
				checkRetry(t, in.l, in.charged, name, modelRetry(in.l, in.charged, name))
				at, ok := retry.Catch(in.catchers, name)
				if got := (given{at, 0, ok}); got != modelCatch(in.catchers, name) {
					t.Errorf("Catch(%v, %q): %v", in.catchers, name, got)
				}
				if got := retry.Charge(in.charged, 2); !slices.Equal(got, list(0, 1, 1, 2)) {
					t.Errorf("Charge(%v, 2): %v", in.charged, got)
				}
			}
		}()
	}
	group.Wait()
}
