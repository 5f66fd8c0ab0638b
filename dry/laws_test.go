package dry_test

import (
	"fmt"
	"math/rand"
	"slices"
	"testing"

	"voyage/api"
)

// TestRandomRunsAgainstTheModel holds P16.1, P16.2: random runs, all that is answered of them.
func TestRandomRunsAgainstTheModel(t *testing.T) {
	r := rand.New(rand.NewSource(16))
	errors, seen := map[string]int{}, map[string]int{}
	for range 2500 {
		g := randomGiven(r)
		report, contests := g.run()
		wantReport, wantContests := modelRun(g)
		if !same(report, wantReport) || !same(contests, wantContests) {
			t.Fatalf("%+v:\n%s\nwant %s", g, shown(report, contests), shown(wantReport, wantContests))
		}
		errors[report.Error]++
		for _, c := range contests {
			tell(seen, c)
		}
	}
	for _, name := range []string{"", "e", "f", outOfFuel, runtime, noChoice, parameters, resultPath, taskFailed} {
		if errors[name] < 10 {
			t.Errorf("too few ends: %v", errors)
		}
	}
	for _, what := range []string{"one part", "more parts", "not the least", "again", "later", "within", "deep"} {
		if seen[what] < 100 {
			t.Errorf("too few contests: %v", seen)
		}
	}
}

// tell counts of what sort a contest is.
func tell(seen map[string]int, c api.Contest) {
	n := len(c.Place)
	for what, is := range map[string]bool{"one part": len(c.Parts) == 1, "more parts": len(c.Parts) > 1, "not the least": c.Won != c.Parts[0], "again": c.Place[n-1] > 1, "later": c.Place[n-2] > 1, "within": n == 5, "deep": n > 5} {
		if is {
			seen[what]++
		}
	}
}

// asWon tells the winners that contests tell.
func asWon(c []api.Contest) []api.Winner {
	var w []api.Winner
	for _, x := range c {
		w = append(w, api.Winner{Place: x.Place, Part: x.Won})
	}
	return w
}

// wantSame wants that two runs come to the same.
func wantSame(t *testing.T, what string, g, h given) {
	t.Helper()
	report, contests := g.run()
	again, contestsAgain := h.run()
	if !same(report, again) || !same(contests, contestsAgain) {
		t.Fatalf("%s: %+v:\n%s\nbut with the winners %v, fuel %d: %s", what, g, shown(report, contests), h.w, h.fuel, shown(again, contestsAgain))
	}
}

// TestWinnersToldAgain holds P16.4: the places of contests are unlike; who tells the winners that they tell comes to the same, whatever else is told; so does who tells any, where each contest has one part alone.
func TestWinnersToldAgain(t *testing.T) {
	r := rand.New(rand.NewSource(17))
	many, single := 0, 0
	for range 1200 {
		g := randomGiven(r)
		_, contests := g.run()
		places, isSingle := map[string]bool{}, true
		for _, c := range contests {
			place := fmt.Sprint(c.Place)
			if places[place] || len(c.Parts) == 0 || !slices.IsSorted(c.Parts) || !slices.Contains(c.Parts, c.Won) || len(slices.Compact(slices.Clone(c.Parts))) < len(c.Parts) {
				t.Fatalf("%+v: %s", g, shown(api.Report{}, contests))
			}
			places[place] = true
			isSingle = isSingle && len(c.Parts) == 1
		}
		again := asWon(contests)
		wantSame(t, "the winners told", g, g.winners(again...))
		r.Shuffle(len(again), func(i, j int) { again[i], again[j] = again[j], again[i] })
		wantSame(t, "in another order", g, g.winners(again...))
		if len(contests) > 1 {
			many++
		}
		var others []api.Winner
		for _, x := range randomWinners(r, contests) {
			if !places[fmt.Sprint(x.Place)] {
				others = append(others, x)
			}
		}
		wantSame(t, "places that no contest has", g, g.winners(slices.Concat(others, g.w)...))
		wantSame(t, "what is told twice", g, g.winners(slices.Concat(again, randomWinners(r, contests))...))
		if isSingle && len(contests) > 0 {
			single++
			wantSame(t, "contests of one part", g, g.winners(randomWinners(r, contests)...))
		}
	}
	if many < 120 || single < 80 {
		t.Errorf("too few: %d, %d", many, single)
	}
}

// TestMoreFuel holds P16.4: more fuel changes nothing where there is no contest, and the error isn't States.OutOfFuel.
func TestMoreFuel(t *testing.T) {
	r := rand.New(rand.NewSource(18))
	runs := 0
	for range 2000 {
		g := randomGiven(r)
		report, contests := g.run()
		if len(contests) > 0 || report.Error == outOfFuel {
			continue
		}
		runs++
		for _, more := range []int{1, 2, 7, 80000} {
			wantSame(t, "more fuel", g, g.fuelled(max(g.fuel, 0)+more))
		}
		wantSame(t, "any winners", g, g.winners(winner(0, 1, 1), winner(1, 2, 1)))
	}
	if runs < 400 {
		t.Errorf("too few: %d", runs)
	}
}

// TestSameAnswers holds R4: what is asked twice is answered alike, whatever was asked between.
func TestSameAnswers(t *testing.T) {
	r := rand.New(rand.NewSource(19))
	for range 500 {
		g, other := randomGiven(r), randomGiven(r)
		report, contests := g.run()
		other.run()
		again, contestsAgain := g.run()
		if !same(report, again) || !same(contests, contestsAgain) {
			t.Fatalf("twice: %s\n%s", shown(report, contests), shown(again, contestsAgain))
		}
	}
}
