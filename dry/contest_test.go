package dry_test

import (
	"fmt"
	"math"
	"slices"
	"testing"

	"voyage/api"
)

// TestWhoCanWin holds P16.2: of a Parallel any part that FAILS can win, of a Map those ahead of which fewer than Most do; the least wins, if none is told.
func TestWhoCanWin(t *testing.T) {
	for _, x := range []struct {
		most int
		bad  []int // the items at which the part FAILS
		can  []int
	}{
		{0, []int{0, 2, 3, 5}, []int{0, 2, 3, 5}}, {-1, []int{0, 2, 3, 5}, []int{0, 2, 3, 5}}, {math.MinInt, []int{4, 5}, []int{4, 5}},
		{1, []int{0, 2, 3, 5}, []int{0}}, {1, []int{2, 3, 5}, []int{2}}, {1, []int{5}, []int{5}},
		{2, []int{0, 2, 3, 5}, []int{0, 2}}, {2, []int{1, 5}, []int{1, 5}}, {2, []int{4}, []int{4}}, {2, []int{0, 1, 2, 3, 4, 5}, []int{0, 1}},
		{3, []int{0, 2, 3, 5}, []int{0, 2, 3}}, {3, []int{3, 4, 5}, []int{3, 4, 5}}, {4, []int{0, 2, 3, 5}, []int{0, 2, 3, 5}}, {5, []int{0, 2, 3, 5}, []int{0, 2, 3, 5}},
		{6, []int{0, 1, 2, 3, 4, 5}, []int{0, 1, 2, 3, 4, 5}}, {7, []int{0, 5}, []int{0, 5}}, {math.MaxInt, []int{0, 2, 3, 5}, []int{0, 2, 3, 5}},
	} {
		over := of(machine(mapped("M", "", x.most, failsAt(x.bad...))), "[0,1,2,3,4,5]")
		fan := parallel("P", "", slices.Repeat([]api.Machine{passing()}, 6)...)
		fan.Most = x.most // not a Parallel's
		for _, i := range x.bad {
			fan.Parts[i] = failing(fmt.Sprint("e", i))
		}
		for part := -1; part <= 6; part++ {
			won := x.can[0]
			if slices.Contains(x.can, part) {
				won = part
			}
			what := fmt.Sprintf("Most %d, of %v, told %d", x.most, x.bad, part)
			wants(t, what, over.winners(winner(part, 1, 1)), fell(fmt.Sprint("e", won), 13), contest(at(1, 1), won, x.can...))
			won = x.bad[0]
			if slices.Contains(x.bad, part) {
				won = part
			}
			wants(t, what+", Parallel", of(machine(fan), "1").winners(winner(part, 1, 1)), fell(fmt.Sprint("e", won), 7), contest(at(1, 1), won, x.bad...))
		}
		wants(t, "none told", over, fell(fmt.Sprint("e", x.can[0]), 13), contest(at(1, 1), x.can[0], x.can...))
	}
	wants(t, "none fails", of(machine(mapped("M", "", 1, failsAt(7))), "[0,1]").winners(winner(0, 1, 1)), done("[0,1]", 6))
}

// TestWinners holds which entry of w counts: the first of the fan-out's place, whether its part can win or not.
func TestWinners(t *testing.T) {
	m := machine(parallel("P", "", failing("e0"), passing(), failing("e2"), failing("e3")))
	for i, x := range []struct {
		w   []api.Winner
		won int
	}{
		{nil, 0}, {[]api.Winner{}, 0}, {[]api.Winner{winner(2, 1, 1)}, 2}, {[]api.Winner{winner(3, 1, 1)}, 3}, {[]api.Winner{winner(0, 1, 1)}, 0},
		{[]api.Winner{winner(1, 1, 1)}, 0}, {[]api.Winner{winner(4, 1, 1)}, 0}, {[]api.Winner{winner(-1, 1, 1)}, 0}, {[]api.Winner{winner(math.MinInt, 1, 1)}, 0}, {[]api.Winner{winner(math.MaxInt, 1, 1)}, 0},
		{[]api.Winner{winner(2, 1, 1), winner(3, 1, 1)}, 2}, {[]api.Winner{winner(3, 1, 1), winner(2, 1, 1)}, 3}, {[]api.Winner{winner(1, 1, 1), winner(2, 1, 1)}, 0}, {[]api.Winner{winner(9, 1, 1), winner(2, 1, 1)}, 0}, {[]api.Winner{winner(2, 1, 1), winner(1, 1, 1)}, 2},
		{[]api.Winner{winner(2), winner(2, 1), winner(2, 1, 2), winner(2, 2, 1), winner(2, 1, 1, 0), winner(2, 0, 1, 1), winner(2, 11), winner(2, -1, 1), winner(2, 1, 1, 0, 1, 1)}, 0},
		{[]api.Winner{winner(2), winner(2, 1), winner(2, 1, 2), winner(3, 1, 1), winner(2, 1, 1)}, 3},
	} {
		wants(t, fmt.Sprint(i), of(m, "1").winners(x.w...), fell(fmt.Sprint("e", x.won), 5), contest(at(1, 1), x.won, 0, 2, 3))
	}
	over := machine(mapped("M", "", 2, failsAt(0, 2, 3)))
	wants(t, "the first can't, for Most", of(over, "[0,1,2,3]").winners(winner(3, 1, 1), winner(2, 1, 1)), fell("e0", 9), contest(at(1, 1), 0, 0, 2))
	wants(t, "the first can", of(over, "[0,1,2,3]").winners(winner(2, 1, 1), winner(3, 1, 1)), fell("e2", 9), contest(at(1, 1), 2, 0, 2))
}

// TestWhatWinnersLeadTo holds that what a retrier and a catcher take is the winner's error.
func TestWhatWinnersLeadTo(t *testing.T) {
	s := parallel("P", "", failing("e"), failing("f"), failing("g"))
	s.Retry = []api.Retrier{retries(1, "e"), retries(2, "f")}
	s.Catch = []api.Catcher{catches("X", "$", "g"), catches("Y", "$", "f")}
	m := of(machine(s, gives("X", `"x"`, ""), pass("Y", "")), "1")
	all := []int{0, 1, 2}
	wants(t, "e, e", m, fell("e", 4+2+4), contest(at(1, 1), 0, all...), contest(at(1, 2), 0, all...))
	wants(t, "g", m.winners(winner(2, 1, 1)), done(`"x"`, 4+1), contest(at(1, 1), 2, all...))
	wants(t, "e, g", m.winners(winner(2, 1, 2)), done(`"x"`, 4+2+4+1), contest(at(1, 1), 0, all...), contest(at(1, 2), 2, all...))
	wants(t, "f, f, e, f", m.winners(winner(1, 1, 1), winner(1, 1, 2), winner(1, 1, 4)), done(`{"Error":"f","Cause":"of f"}`, 4*4+3*2+1),
		contest(at(1, 1), 1, all...), contest(at(1, 2), 1, all...), contest(at(1, 3), 0, all...), contest(at(1, 4), 1, all...))
}

// TestPlaces holds the places of fan-outs: by visit and by attempt, of the frame's place, of parts within parts.
func TestPlaces(t *testing.T) {
	fan := parallel("P", "", failing("e"), failing("f"))
	fan.Retry, fan.Catch = []api.Retrier{retries(1, "e")}, []api.Catcher{catches("A", "$", all)}
	m := machine(pass("A", "B"), pass("B", "P"), fan)
	both := []int{0, 1}
	c := func(won int, place ...int) api.Contest { return contest(place, won, both...) }
	wants(t, "visits and attempts", of(m, "1").fuelled(9), ended(outOfFuel, 3*(2+3+2+3)), c(0, 3, 1), c(0, 3, 2), c(0, 6, 1), c(0, 6, 2), c(0, 9, 1), c(0, 9, 2))
	wants(t, "each by itself", of(m, "1").fuelled(9).winners(winner(1, 6, 1), winner(1, 9, 2), winner(1, 3, 2), winner(1, 6, 2)), ended(outOfFuel, 3*(2+3+2+3)-5), c(0, 3, 1), c(1, 3, 2), c(1, 6, 1), c(0, 9, 1), c(1, 9, 2))
	inner := parallel("Q", "", failing("e"), failing("f"))
	inner.Retry = []api.Retrier{retries(1, "e")}
	outer := parallel("P", "", passing(), machine(pass("A", "Q"), inner), machine(mapped("M", "", 1, machine(inner))))
	outer.Retry = []api.Retrier{retries(1, "f")}
	g := of(machine(outer), "[7]")
	wants(t, "parts within parts", g, fell("e", 1+1+(1+3+2+3)+(1+3+2+3)),
		c(0, 1, 1, 1, 2, 1), c(0, 1, 1, 1, 2, 2), c(0, 1, 1, 2, 1, 1, 0, 1, 1), c(0, 1, 1, 2, 1, 1, 0, 1, 2), contest(at(1, 1, 2, 1, 1), 0, 0), contest(at(1, 1), 1, 1, 2))
	wants(t, "and again", g.winners(winner(1, 1, 1, 2, 1, 1, 0, 1, 1), winner(2, 1, 1), winner(1, 1, 2, 1, 2, 2)), fell("f", (1+1+9+4)+2+(1+1+9+9)),
		c(0, 1, 1, 1, 2, 1), c(0, 1, 1, 1, 2, 2), c(1, 1, 1, 2, 1, 1, 0, 1, 1), contest(at(1, 1, 2, 1, 1), 0, 0), contest(at(1, 1), 2, 1, 2),
		c(0, 1, 2, 1, 2, 1), c(1, 1, 2, 1, 2, 2), c(0, 1, 2, 2, 1, 1, 0, 1, 1), c(0, 1, 2, 2, 1, 1, 0, 1, 2), contest(at(1, 2, 2, 1, 1), 0, 0), contest(at(1, 2), 1, 1, 2))
}

// TestOrder holds that contests are told in the order in which they came to be: those within a part ahead of its fan-out's, those of lesser parts ahead of those of greater ones; also of parts that don't win, and of parts that end well.
func TestOrder(t *testing.T) {
	caught := parallel("Q", "", failing("e"))
	caught.Catch = []api.Catcher{catches("Z", "$", all)}
	good, bad := machine(caught, pass("Z", "")), machine(parallel("Q", "", failing("f"), failing("g")))
	within := machine(mapped("M", "", 1, bad))
	m := machine(parallel("P", "N", good, good), parallel("N", "O", good), parallel("O", "", bad, good, within, passing(), bad))
	one := func(place ...int) api.Contest { return contest(place, 0, 0) }
	two := func(place ...int) api.Contest { return contest(place, 0, 0, 1) }
	wants(t, "order", of(m, `1`), fell("f", (1+3+3+1)+(1+3+1)+(1+3+3+4+1+3)),
		one(1, 1, 0, 1, 1), one(1, 1, 1, 1, 1), one(2, 1, 0, 1, 1),
		two(3, 1, 0, 1, 1), one(3, 1, 1, 1, 1), two(3, 1, 2, 1, 1, 0, 1, 1), one(3, 1, 2, 1, 1), two(3, 1, 4, 1, 1), contest(at(3, 1), 0, 0, 2, 4))
}

// TestStepsOfLosers holds that all parts are run to their ends, and their steps counted, whichever wins; but nothing of what isn't made.
func TestStepsOfLosers(t *testing.T) {
	s := task("T", "")
	s.Retry = []api.Retrier{retries(3, all)}
	m := machine(parallel("P", "", failing("e"), row(7), machine(s), circle(), passing()))
	for won := range 4 {
		r, c := of(m, "1").fuelled(10).winners(winner(won, 1, 1)).run()
		if r.Steps != 1+1+7+(4*3+2)+10+1 || !same(c, []api.Contest{contest(at(1, 1), []int{0, 0, 2, 3}[won], 0, 2, 3)}) {
			t.Errorf("%d: %s", won, shown(r, c))
		}
	}
	over := machine(mapped("M", "", 1, failsAt(0, 3)))
	wants(t, "those that Most would hold back, too", of(over, "[0,1,2,3]"), fell("e0", 1+4*2), contest(at(1, 1), 0, 0))
}
