package retry_test

import (
	"math"
	"slices"
	"testing"

	"voyage/api"
	"voyage/retry"
)

const (
	all        = "States.ALL"
	taskFailed = "States.TaskFailed"
	timeout    = "States.Timeout"
	outOfFuel  = "States.OutOfFuel"
	runtime    = "States.Runtime"
)

func list[T any](of ...T) []T { return of }

func rate(digits string, exp int) api.Dec { return api.Dec{Digits: digits, Exp: exp} }

// TestMatches holds P10.1.
func TestMatches(t *testing.T) {
	for _, x := range []struct {
		names []string
		name  string
		want  bool
	}{
		// the chapter's examples
		{list("a", "b"), "b", true},
		{nil, "b", false},
		{list(all), "b", true},
		{list(all), outOfFuel, false},
		{list(outOfFuel), outOfFuel, false},
		{list(taskFailed), "b", true},
		{list(taskFailed), timeout, false},
		{list(taskFailed), runtime, true},
		{list(taskFailed, timeout), timeout, true},
		// the order doesn't matter, nor what stands beside
		{list("b", "a"), "b", true},
		{list("a", "b", "c"), "c", true},
		{list("a", "b", "c"), "d", false},
		{list(timeout, taskFailed), timeout, true},
		{list(taskFailed, all), timeout, true},
		{list(all, taskFailed), timeout, true},
		{list(taskFailed, "a"), timeout, false},
		{list("a", taskFailed), timeout, false},
		{list("a", all), "b", true},
		{list("a", taskFailed), "b", true},
		// nothing ever speaks of it
		{list(all, taskFailed, outOfFuel, "a"), outOfFuel, false},
		{list(taskFailed), outOfFuel, false},
		{nil, outOfFuel, false},
		{list(outOfFuel), "a", false},
		{list(outOfFuel, "a"), "a", true},
		{list("a", outOfFuel), "a", true},
		{list(outOfFuel), all, false},
		// States.Timeout among the names is one as any other
		{list(timeout), timeout, true},
		{list(timeout), taskFailed, false},
		{list(timeout), "a", false},
		{list(all), timeout, true},
		// names that stand for others, as the name
		{list(all), all, true},
		{list(taskFailed), taskFailed, true},
		{list(taskFailed), all, true},
		{list(all), taskFailed, true},
		{list("a"), all, false},
		{list("a"), taskFailed, false},
		{list(runtime), all, false},
		{list(runtime), taskFailed, false},
		// the empty name
		{list(""), "", true},
		{list("a"), "", false},
		{list(""), "a", false},
		{nil, "", false},
		{list(all), "", true},
		{list(taskFailed), "", true},
		// the same bytes, nothing else
		{list("B"), "b", false},
		{list("b "), "b", false},
		{list("b"), "bb", false},
		{list("bb"), "b", false},
		{list("\xff"), "\xff", true},
		{list("\xff"), "\xfe", false},
		{list("\xff"), "\ufffd", false},
		{list("\ufffd"), "\xff", false},
		{list("\u00e9"), "e\u0301", false},
		{list("b\x00"), "b", false},
		{list("States.all"), "b", false},
		{list("states.ALL"), "b", false},
		{list("ALL"), "b", false},
		{list("States.ALL "), "b", false},
		{list("States."), "States.Runtime", false},
		{list("States.Taskfailed"), "b", false},
		{list("TaskFailed"), "b", false},
		{list(all), "States.outOfFuel", true},
		{list(all), "States.OutOfFuel ", true},
		{list(all), "OutOfFuel", true},
		{list(taskFailed), "States.TimeOut", true},
		{list(taskFailed), "States.Timeout ", true},
		{list(taskFailed), "Timeout", true},
	} {
		if got := retry.Matches(x.names, x.name); got != x.want {
			t.Errorf("Matches(%q, %q): %v", x.names, x.name, got)
		}
	}
}

// chapterRetriers are those of the chapter's examples.
func chapterRetriers() []api.Retrier {
	return []api.Retrier{
		{Errors: list("a"), Interval: 2, Most: 2, Rate: rate("15", -1)},
		{Errors: list(all), Interval: 1, Most: 1, Rate: rate("2", 0)},
	}
}

// given is what Retry, or Catch, gave.
type given struct {
	place int
	delay int64
	ok    bool
}

func asked(l []api.Retrier, charged []int, name string) given {
	place, delay, ok := retry.Retry(l, charged, name)
	return given{place, delay, ok}
}

func checkRetry(t *testing.T, l []api.Retrier, charged []int, name string, want given) {
	t.Helper()
	if got := asked(l, charged, name); got != want {
		t.Errorf("Retry(%v, %v, %q): %v, not %v", l, charged, name, got, want)
	}
}

// TestRetryOfTheChapter holds P10.2 at the chapter's examples.
func TestRetryOfTheChapter(t *testing.T) {
	l := chapterRetriers()
	checkRetry(t, l, nil, "a", given{0, 2, true})
	checkRetry(t, l, list(1), "a", given{0, 3, true})
	checkRetry(t, l, list(2), "a", given{})
	checkRetry(t, l, list(0, 0), "b", given{1, 1, true})
	checkRetry(t, l, list(0, 1), "b", given{})
	checkRetry(t, l, list(-5), "a", given{0, 2, true})
}

// TestRetryWhich holds which retrier decides: P10.2.
func TestRetryWhich(t *testing.T) {
	l := []api.Retrier{
		{Errors: list("a", "b"), Interval: 10, Most: 1},
		{Errors: nil, Interval: 20, Most: 5},
		{Errors: list("b", "c", outOfFuel), Interval: 30, Most: 1},
		{Errors: list(taskFailed), Interval: 40, Most: 0},
		{Errors: list(timeout, all), Interval: 50, Most: 1},
	}
	checkRetry(t, l, nil, "a", given{0, 10, true})
	checkRetry(t, l, nil, "b", given{0, 10, true})
	checkRetry(t, l, nil, "c", given{2, 30, true})
	checkRetry(t, l, nil, timeout, given{4, 50, true})
	checkRetry(t, l, nil, outOfFuel, given{})
	// one that is used up, or has no attempts, is ahead of one that would take the name
	checkRetry(t, l, list(1, 0, 0, 0, 0), "b", given{})
	checkRetry(t, l, nil, "d", given{})
	checkRetry(t, l, nil, "", given{})
	// what the others were charged doesn't matter
	checkRetry(t, l, list(1, 5, 0, 9, 9), "c", given{2, 30, true})
	checkRetry(t, l, list(0, 0, 1), "c", given{})
	checkRetry(t, l, list(9, 9, 9, 9, 0), timeout, given{4, 50, true})
	checkRetry(t, l, list(0, 0, 0, 0, 1), timeout, given{})
	// none, and none that speaks of it
	checkRetry(t, nil, nil, "a", given{})
	checkRetry(t, nil, list(0, 1, 2), "a", given{})
	checkRetry(t, l[:3], nil, "d", given{})
	checkRetry(t, []api.Retrier{{Interval: 1, Most: 1}}, nil, "a", given{})
	checkRetry(t, []api.Retrier{{Interval: 1, Most: 1, Errors: list("")}}, nil, "", given{0, 1, true})
}

// TestRetryHowOften holds the charges against Most: P10.2.
func TestRetryHowOften(t *testing.T) {
	for _, x := range []struct {
		most    int
		charged []int
		want    int64 // how long it waits; 0: it doesn't take it
	}{
		{3, nil, 1},
		{3, list(0), 1},
		{3, list(1), 2},
		{3, list(2), 4},
		{3, list(3), 0},
		{3, list(4), 0},
		{3, list(math.MaxInt), 0},
		{3, list(-1), 1},
		{3, list(math.MinInt), 1},
		{3, list(2, 7, -7, math.MaxInt), 4},
		{1, nil, 1},
		{1, list(-1), 1},
		{1, list(0), 1},
		{1, list(1), 0},
		{0, nil, 0},
		{0, list(0), 0},
		{0, list(-1), 0},
		{-1, nil, 0},
		{-1, list(0), 0},
		{-1, list(-1), 0},
		{-1, list(-2), 0},
		{-5, list(-9), 0},
		{math.MinInt, nil, 0},
		{math.MinInt, list(math.MinInt), 0},
		{math.MaxInt, nil, 1},
		{math.MaxInt, list(5), 32},
		{math.MaxInt, list(math.MaxInt - 1), api.MaxDelay},
		{math.MaxInt, list(math.MaxInt), 0},
	} {
		l := []api.Retrier{{Errors: list("a"), Interval: 1, Most: x.most, Rate: rate("2", 0)}}
		checkRetry(t, l, x.charged, "a", given{0, x.want, x.want > 0})
	}
}

// TestRetryHowLong holds how long a retrier waits: P10.2, by P1.7.
func TestRetryHowLong(t *testing.T) {
	for _, x := range []struct {
		r       api.Retrier
		charged int
		want    int64
	}{
		{api.Retrier{Interval: 2, Rate: rate("15", -1)}, 0, 2},
		{api.Retrier{Interval: 2, Rate: rate("15", -1)}, 1, 3},
		{api.Retrier{Interval: 2, Rate: rate("15", -1)}, 2, 4},
		{api.Retrier{Interval: 2, Rate: rate("15", -1)}, 3, 6},
		{api.Retrier{Interval: 2, Rate: rate("15", -1)}, 4, 10},
		{api.Retrier{Interval: 2, Rate: rate("15", -1), MaxDelay: 5}, 4, 5},
		{api.Retrier{Interval: 2, Rate: rate("15", -1), MaxDelay: 1}, 0, 1},
		{api.Retrier{Interval: 2, Rate: rate("15", -1), MaxDelay: -1}, 4, 10},
		{api.Retrier{Interval: 7, Rate: rate("5", -1)}, 3, 7},
		{api.Retrier{Interval: 7}, 3, 7},
		{api.Retrier{Interval: 7, Rate: api.Dec{Neg: true, Digits: "3"}}, 3, 7},
		{api.Retrier{Interval: 1, Rate: rate("1", 4)}, 1, 1000},
		{api.Retrier{Interval: 1, Rate: rate("1", 3)}, 8, api.MaxDelay},
		{api.Retrier{Interval: math.MaxInt}, 0, api.MaxDelay},
		{api.Retrier{Interval: math.MaxInt, MaxDelay: math.MaxInt}, 0, api.MaxDelay},
		{api.Retrier{Interval: 0, Rate: rate("2", 0)}, 5, 0},
		{api.Retrier{Interval: math.MinInt, Rate: rate("2", 0)}, 5, 0},
		{api.Retrier{Interval: 1, Rate: rate("11", -1)}, 97, 10353},
		{api.Retrier{Interval: 1, Rate: rate("11", -1)}, 98, 11388},
		{api.Retrier{Interval: 1, Rate: rate("11", -1)}, 99, 12527},
		{api.Retrier{Interval: 1, Rate: rate("11", -1)}, 100, 12527},
	} {
		x.r.Errors, x.r.Most = list("a"), 1000
		other := api.Retrier{Errors: list("b"), Interval: 99, Most: 99, Rate: rate("3", 0), MaxDelay: 99}
		checkRetry(t, []api.Retrier{x.r}, list(x.charged), "a", given{0, x.want, true})
		checkRetry(t, []api.Retrier{other, x.r, other}, list(4, x.charged, 5), "a", given{1, x.want, true})
	}
}

// TestCharge holds P10.3.
func TestCharge(t *testing.T) {
	for _, x := range []struct {
		charged []int
		place   int
		want    []int
	}{
		// the chapter's examples
		{nil, 0, list(1)},
		{list(1), 2, list(1, 0, 1)},
		{list(1, 2), 0, list(2, 2)},
		{list(-3), 0, list(1)},
		{list(1), -1, list(1)},
		{nil, 65536, nil},
		// within, at the end, behind it
		{list(4, 5, 6), 0, list(5, 5, 6)},
		{list(4, 5, 6), 1, list(4, 6, 6)},
		{list(4, 5, 6), 2, list(4, 5, 7)},
		{list(4, 5, 6), 3, list(4, 5, 6, 1)},
		{list(4, 5, 6), 4, list(4, 5, 6, 0, 1)},
		{nil, 1, list(0, 1)},
		{nil, 3, list(0, 0, 0, 1)},
		// the numbers at other places stay, whatever they are
		{list(-7, 0, math.MaxInt, math.MinInt), 1, list(-7, 1, math.MaxInt, math.MinInt)},
		{list(-7, math.MaxInt), 3, list(-7, math.MaxInt, 0, 1)},
		// about nought, and the ends of int
		{list(-1), 0, list(1)},
		{list(0), 0, list(1)},
		{list(math.MinInt), 0, list(1)},
		{list(math.MaxInt), 0, list(math.MaxInt)},
		{list(math.MaxInt - 1), 0, list(math.MaxInt)},
		{list(math.MaxInt - 2), 0, list(math.MaxInt - 1)},
		{list(3, math.MaxInt, -3), 1, list(3, math.MaxInt, -3)},
		// no such place
		{nil, -1, nil},
		{nil, math.MinInt, nil},
		{nil, math.MaxInt, nil},
		{list(4, -5), -1, list(4, -5)},
		{list(4, -5), -2, list(4, -5)},
		{list(4, -5), math.MinInt, list(4, -5)},
		{list(4, -5), 65536, list(4, -5)},
		{list(4, -5), 65537, list(4, -5)},
		{list(4, -5), math.MaxInt, list(4, -5)},
	} {
		if got := retry.Charge(x.charged, x.place); !slices.Equal(got, x.want) {
			t.Errorf("Charge(%v, %d): %v", x.charged, x.place, got)
		}
	}
}

// TestChargeFarPlaces holds the last place up to which charges grow: P10.3.
func TestChargeFarPlaces(t *testing.T) {
	for _, x := range []struct{ long, place, want int }{ // want: how long the answer is
		{0, 65534, 65535},
		{0, 65535, 65536},
		{0, 65536, 0},
		{7, 65535, 65536},
		{7, 65536, 7},
		{65535, 65534, 65535},
		{65535, 65535, 65536},
		{65535, 65536, 65535},
		{65536, 65535, 65536},
		{65536, 65536, 65536},
		{65536, 65537, 65536},
		{65537, 65535, 65537},
		{65537, 65536, 65537},
		{65537, 65537, 65537},
		{70000, 65536, 70000},
		{70000, 69999, 70000},
		{70000, 70000, 70000},
		{70000, -1, 70000},
	} {
		charged := make([]int, x.long)
		for i := range charged {
			charged[i] = i%5 - 1
		}
		want := make([]int, x.want)
		copy(want, charged)
		if x.place >= 0 && x.place < x.want {
			want[x.place] = max(want[x.place], 0) + 1
		}
		if got := retry.Charge(charged, x.place); !slices.Equal(got, want) {
			t.Errorf("Charge of %d numbers, %d: %d numbers", x.long, x.place, len(got))
		}
	}
}

// TestCatch holds P10.4.
func TestCatch(t *testing.T) {
	chapter := []api.Catcher{{Errors: list("b")}, {Errors: list(all)}}
	many := []api.Catcher{
		{Next: "w"},
		{Errors: list("a", "b"), Next: "x"},
		{Errors: list("b", "c", outOfFuel), Next: "y"},
		{Errors: list("", taskFailed)},
		{Errors: list(timeout), Next: "z"},
		{Errors: list(all)},
	}
	for _, x := range []struct {
		l    []api.Catcher
		name string
		want given
	}{
		// the chapter's examples
		{chapter, "a", given{1, 0, true}},
		{chapter, "b", given{0, 0, true}},
		{nil, "a", given{}},
		// the first that speaks of it
		{many, "a", given{1, 0, true}},
		{many, "b", given{1, 0, true}},
		{many, "c", given{2, 0, true}},
		{many, "d", given{3, 0, true}},
		{many, "", given{3, 0, true}},
		{many, timeout, given{4, 0, true}},
		{many, outOfFuel, given{}},
		{many[4:], "d", given{1, 0, true}},
		{many[5:], timeout, given{0, 0, true}},
		// none
		{nil, "", given{}},
		{nil, outOfFuel, given{}},
		{many[:1], "a", given{}},
		{many[:3], "d", given{}},
		{many[:4], timeout, given{}},
	} {
		place, ok := retry.Catch(x.l, x.name)
		if got := (given{place, 0, ok}); got != x.want {
			t.Errorf("Catch(%v, %q): %v", x.l, x.name, got)
		}
	}
}
