package dry_test

import (
	"fmt"
	"math"
	"testing"

	"voyage/api"
)

// circle is a machine that goes round for ever.
func circle() api.Machine { return machine(pass("A", "A")) }

// row is a machine of so many states, one behind the other.
func row(n int) api.Machine {
	m := api.Machine{Start: "s0"}
	for i := range n {
		m.States = append(m.States, pass(fmt.Sprint("s", i), fmt.Sprint("s", i+1)))
	}
	m.States[n-1].Next = ""
	return m
}

// TestFuel holds P16.1: fuel is how many states the whole one enters; below 0 it is 0, above MaxFuel it is that.
func TestFuel(t *testing.T) {
	for _, x := range []struct{ fuel, steps int }{{math.MinInt, 0}, {-1, 0}, {0, 0}, {1, 1}, {2, 2}, {300, 300}, {65535, 65535}, {65536, 65536}, {65537, 65536}, {math.MaxInt, 65536}} {
		wants(t, fmt.Sprint("fuel ", x.fuel), of(circle(), "1").fuelled(x.fuel), ended(outOfFuel, x.steps))
	}
	for _, fuel := range []int{math.MinInt, -1, 0} {
		wants(t, "none", of(passing(), "1").fuelled(fuel), ended(outOfFuel, 0))
	}
	for n := 1; n < 6; n++ {
		wants(t, "as much as it takes", of(row(n), "1").fuelled(n), done("1", n))
		wants(t, "one less", of(row(n), "1").fuelled(n-1), ended(outOfFuel, n-1))
		wants(t, "one more", of(row(n), "1").fuelled(n+1), done("1", n))
	}
}

// TestFuelOfParts holds that each part has the fuel that the whole one had at first, whatever that one or others have used.
func TestFuelOfParts(t *testing.T) {
	for _, fuel := range []int{1, 2, 3, 9} {
		m := machine(parallel("P", "", circle(), circle(), circle()))
		wants(t, "circles", of(m, "1").fuelled(fuel), ended(outOfFuel, 1+3*fuel), contest(at(1, 1), 0, 0, 1, 2))
		m = machine(mapped("M", "", 0, circle()))
		wants(t, "circles of a Map", of(m, "[1,2]").fuelled(fuel), ended(outOfFuel, 1+2*fuel), contest(at(1, 1), 0, 0, 1))
		m = machine(parallel("P", "", machine(parallel("Q", "", circle(), circle())), circle()))
		wants(t, "circles of parts", of(m, "1").fuelled(fuel), ended(outOfFuel, 2+3*fuel), contest(at(1, 1, 0, 1, 1), 0, 0, 1), contest(at(1, 1), 0, 0, 1))
	}
	m := machine(pass("A", "B"), pass("B", "P"), parallel("P", "", row(3), row(3), machine(parallel("Q", "", row(3)))))
	wants(t, "just enough for each", of(m, "1").fuelled(3), done("[1,1,[1]]", 2+1+3+3+1+3+1+1))
	wants(t, "one less", of(m, "1").fuelled(2), ended(outOfFuel, 2))
	m = machine(parallel("P", "", row(3), passing()))
	wants(t, "one part has too little", of(m, "1").fuelled(2), ended(outOfFuel, 1+2+1), contest(at(1, 1), 0, 0))
	wants(t, "the most fuel, of a part", of(machine(parallel("P", "", circle())), "1").fuelled(math.MaxInt), ended(outOfFuel, 1+65536), contest(at(1, 1), 0, 0))
	wants(t, "none below 0, of a part", of(machine(parallel("P", "", circle())), "1").fuelled(-7), ended(outOfFuel, 0))
}

// TestFuelRunsOut holds that an end, a retry and an error take no fuel, that a catcher's Next does, and that no fuel is neither retried nor caught.
func TestFuelRunsOut(t *testing.T) {
	s := task("T", "")
	s.Retry, s.Catch = []api.Retrier{retries(3, all)}, []api.Catcher{catches("Z", "null", all)}
	m := machine(s, pass("Z", ""))
	wants(t, "retries take none", of(m, "1").fuelled(2), done("1", 3*4+2+1))
	wants(t, "a catcher does", of(m, "1").fuelled(1), ended(outOfFuel, 3*4+2))
	fan := parallel("P", "", circle())
	fan.Retry, fan.Catch = []api.Retrier{retries(3, all, outOfFuel)}, []api.Catcher{catches("Z", "$", all, outOfFuel)}
	wants(t, "of a part", of(machine(fan, pass("Z", "")), "1").fuelled(4), ended(outOfFuel, 5), contest(at(1, 1), 0, 0))
	fan.Parts = []api.Machine{machine(fails("F", outOfFuel))}
	wants(t, "one that a Fail tells", of(machine(fan, pass("Z", "")), "1"), fell(outOfFuel, 2), contest(at(1, 1), 0, 0))
	ask := of(takenCare(task("T", "")), "1").answers(answer("rT", 0, wrong(outOfFuel, "why")))
	wants(t, "one that a task tells", ask, api.Report{Error: outOfFuel, Cause: "why", Steps: 2})
}
