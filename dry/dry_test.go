package dry_test

import (
	"testing"

	"voyage/api"
)

// TestExamples holds all of the chapter's examples: P16.1, P16.2.
func TestExamples(t *testing.T) {
	two := machine(gives("A", "1", "B"), api.State{Name: "B", Type: api.Succeed})
	wants(t, "A, B; fuel 5", of(two, "{}").fuelled(5), done("1", 2))
	wants(t, "A, B; fuel 1", of(two, "{}").fuelled(1), ended(outOfFuel, 1))
	s := task("T", "")
	s.Resource, s.Retry = "r", []api.Retrier{retries(1, all)}
	once := of(machine(s), "{}")
	wants(t, "T", once.answers(answer("r", 1, wrong("e", "")), answer("r", 2, fine("7"))), done("7", 6))
	wants(t, "T without answers", once, ended(taskFailed, 6))
	fan := of(machine(parallel("P", "", failing("e"), failing("f"))), "{}")
	wants(t, "P", fan, fell("e", 3), contest(at(1, 1), 0, 0, 1))
	wants(t, "P, the second one wins", fan.winners(winner(1, 1, 1)), fell("f", 3), contest(at(1, 1), 1, 0, 1))
	wants(t, "P, no such part", fan.winners(winner(2, 1, 1)), fell("e", 3), contest(at(1, 1), 0, 0, 1))
	wants(t, "P, no such place", fan.winners(winner(1, 1, 2)), fell("e", 3), contest(at(1, 1), 0, 0, 1))
	e := failsAt(2, 3)
	e.States[2].Error, e.States[3].Error = "e", "e"
	over := of(machine(mapped("M", "", 1, e)), "[1,2,3]")
	wants(t, "Map", over, api.Report{Error: "e", Cause: "of e2", Steps: 7}, contest(at(1, 1), 1, 1))
	wants(t, "Map, the third one is told", over.winners(winner(2, 1, 1)), api.Report{Error: "e", Cause: "of e2", Steps: 7}, contest(at(1, 1), 1, 1))
	wants(t, "Map over none", of(over.m, "[]"), done("[]", 2))
}

// eight has states of all eight types, one behind the other; its Choice asks whether n is below 3.
func eight() api.Machine {
	first, ask, fan, over := gives("A", `{"l":[1,2]}`, "T"), task("T", "C"), parallel("P", "M", machine(pass("A", "B"), pass("B", "")), machine(task("Q", ""))), mapped("M", "S", 1, passing())
	first.Result, ask.Result, fan.Result, over.Result = way("$.a"), way("$.t"), way("$.p"), way("$.m")
	fan.Input, over.Items = way("$.a"), way("$.a.l")
	choice := api.State{Name: "C", Type: api.Choice, Rules: []api.Rule{{Op: 17, Var: way("$.n"), With: val("3"), Next: "W"}}, Default: "F"}
	wait := api.State{Name: "W", Type: api.Wait, WaitKind: 2, AtPath: way("$.n"), Next: "P"}
	return machine(first, ask, choice, wait, fan, over, api.State{Name: "S", Type: api.Succeed}, fails("F", "e"))
}

// TestAllTypes holds ordinary runs of a machine with states of all eight types, to a fine end and to errors: P16.1.
func TestAllTypes(t *testing.T) {
	l := []api.Answer{answer("rT", 0, fine("7")), answer("rQ", 0, fine("8"))}
	g := of(eight(), `{"n":2}`).answers(l...)
	wants(t, "fine", g, done(`{"n":2,"a":{"l":[1,2]},"t":7,"p":[{"l":[1,2]},8],"m":[1,2]}`, 17))
	wants(t, "just enough fuel", g.fuelled(7), done(`{"n":2,"a":{"l":[1,2]},"t":7,"p":[{"l":[1,2]},8],"m":[1,2]}`, 17))
	wants(t, "too little fuel", g.fuelled(6), ended(outOfFuel, 16))
	wants(t, "the Choice leads to a Fail", of(eight(), `{"n":3}`).answers(l...), fell("e", 5))
	wants(t, "no n", of(eight(), `{}`).answers(l...), ended(runtime, 4))
	wants(t, "no moment", of(eight(), `{"n":-1}`).answers(l...), ended(runtime, 5))
	wants(t, "no object", of(eight(), `7`).answers(l...), ended(resultPath, 1))
	wants(t, "no answers", of(eight(), `{"n":2}`), ended(taskFailed, 3))
	wants(t, "no answer within a part", of(eight(), `{"n":2}`).answers(l[0]), ended(taskFailed, 11), contest(at(5, 1), 1, 1))
}

// TestSteps holds that what isn't run isn't counted, and that nothing but what is run counts.
func TestSteps(t *testing.T) {
	wants(t, "no state at all", of(api.Machine{}, "1"), ended(runtime, 0))
	wants(t, "one state", of(passing(), "1"), done("1", 1))
	wants(t, "a state that isn't come to", of(machine(pass("A", ""), pass("B", "A")), "1"), done("1", 1))
	wants(t, "a state that isn't there", of(machine(pass("A", "gone")), "1"), ended(runtime, 1))
	wants(t, "of no type", of(machine(pass("A", "B"), api.State{Name: "B"}), "1"), ended(runtime, 1))
	wants(t, "a Parallel of three", of(machine(parallel("P", "", passing(), machine(pass("A", "B"), pass("B", "")), machine(task("T", "")))), "1").answers(answer("rT", 0, fine("2"))), done("[1,1,2]", 7))
}
