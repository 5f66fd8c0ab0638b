package valid_test

import (
	"math/big"
	"regexp"
	"slices"
	"strconv"
	"strings"

	"voyage/api"
)

// The model tells the faults of a machine as lines; its places are texts that grow, what a type has is told by a text, and ways are a table of who comes to whom.

var (
	plainName = regexp.MustCompile(`^[A-Za-z0-9_-]+$`)
	noDigits  = regexp.MustCompile(`[^0-9]`)
)

// step tells a name as a path's text does.
func step(name string) string {
	if plainName.MatchString(name) {
		return "." + name
	}
	said := string([]rune(name))
	return "['" + strings.ReplaceAll(strings.ReplaceAll(said, `\`, `\\`), `'`, `\'`) + "']"
}

// has tells by letters what a state of a type has: n Next, t retriers and catchers, e an end always, c w p m its own.
func has(s api.State, letter string) bool {
	letters := map[int]string{1: "n", 2: "nt", 3: "c", 4: "nw", 5: "e", 6: "e", 7: "ntp", 8: "ntm"}[s.Type]
	return strings.Contains(letters, letter)
}

// within tells whether a number is a whole one of these bounds, as texts tell them.
func within(n int, least, most string) bool {
	x := big.NewInt(int64(n))
	a, _ := new(big.Int).SetString(least, 10)
	b, _ := new(big.Int).SetString(most, 10)
	return x.Cmp(a) >= 0 && x.Cmp(b) <= 0
}

// rateFits holds a rate against its bounds by fractions.
func rateFits(d api.Dec) bool {
	digits := noDigits.ReplaceAllString(d.Digits, "")
	digits = strings.TrimLeft(digits, "0")
	short := strings.TrimRight(digits, "0")
	if exp := d.Exp + len(digits) - len(short); short == "" || d.Neg || exp < -9999 || exp > 9999 {
		return false
	}
	x, ok := new(big.Rat).SetString(digits + "e" + strconv.Itoa(d.Exp))
	return ok && x.Cmp(big.NewRat(1, 1)) >= 0 && x.Cmp(big.NewRat(1000, 1)) <= 0
}

// lines are faults, as they are found.
type lines []string

func (l *lines) add(wrong bool, word, where string) {
	if wrong {
		*l = append(*l, word+" "+where)
	}
}

func modelFaults(m api.Machine) []string {
	var l lines
	modelMachine(&l, m, "$", 1)
	return l
}

func modelMachine(l *lines, m api.Machine, at string, deep int) {
	if deep == 65 {
		l.add(true, "ErrDeep", at)
		return
	}
	var names []string
	var states []api.State
	for _, s := range m.States {
		names = append(names, s.Name)
	}
	l.add(!slices.Contains(names, m.Start), "ErrTarget", at+".StartAt")
	for i, s := range m.States {
		here := at + ".States" + step(s.Name)
		if slices.Index(names, s.Name) < i {
			l.add(true, "ErrTwice", here)
			continue
		}
		states = append(states, s)
		modelState(l, s, names, here, deep)
	}
	modelReach(l, m.Start, states, at)
}

// modelLeads tells whether one state leads to another one.
func modelLeads(s, to api.State) bool {
	leads := has(s, "n") && s.Next != "" && s.Next == to.Name
	for _, r := range s.Rules {
		leads = leads || has(s, "c") && r.Next == to.Name
	}
	leads = leads || has(s, "c") && s.Default != "" && s.Default == to.Name
	for _, c := range s.Catch {
		leads = leads || has(s, "t") && c.Next == to.Name
	}
	return leads
}

// modelReach makes the table of who comes to whom: by none, and then by any of one state more.
func modelReach(l *lines, start string, states []api.State, at string) {
	comes := make([][]bool, len(states))
	for i := range states {
		comes[i] = make([]bool, len(states))
		for j := range states {
			comes[i][j] = i == j || modelLeads(states[i], states[j])
		}
	}
	for by := range states {
		for i := range states {
			for j := range states {
				comes[i][j] = comes[i][j] || comes[i][by] && comes[by][j]
			}
		}
	}
	for i, s := range states {
		met, ends := false, false
		for j, other := range states {
			met = met || other.Name == start && comes[j][i]
			ends = ends || comes[i][j] && (has(other, "e") || has(other, "n") && other.Next == "")
		}
		l.add(!met || !ends, "ErrReach", at+".States"+step(s.Name))
	}
}

func modelState(l *lines, s api.State, names []string, at string, deep int) {
	isn := func(name string) bool { return !slices.Contains(names, name) }
	l.add(!within(s.Type, "1", "8"), "ErrRange", at+".Type")
	l.add(has(s, "n") && s.Next != "" && isn(s.Next), "ErrTarget", at+".Next")
	if has(s, "t") {
		for i, r := range s.Retry {
			here := at + ".Retry[" + strconv.Itoa(i) + "]"
			modelNames(l, r.Errors, here, len(s.Retry)-i)
			l.add(!within(r.Interval, "1", "2147483647"), "ErrRange", here+".IntervalSeconds")
			l.add(!within(r.Most, "0", "99"), "ErrRange", here+".MaxAttempts")
			l.add(!rateFits(r.Rate), "ErrRange", here+".BackoffRate")
			l.add(!within(r.MaxDelay, "0", "2147483647"), "ErrRange", here+".MaxDelaySeconds")
		}
		for i, c := range s.Catch {
			here := at + ".Catch[" + strconv.Itoa(i) + "]"
			modelNames(l, c.Errors, here, len(s.Catch)-i)
			l.add(isn(c.Next), "ErrTarget", here+".Next")
		}
	}
	if has(s, "c") {
		l.add(len(s.Rules) == 0, "ErrRange", at+".Choices")
		for i, r := range s.Rules {
			here := at + ".Choices[" + strconv.Itoa(i) + "]"
			modelRule(l, r, here)
			l.add(isn(r.Next), "ErrTarget", here+".Next")
		}
		l.add(s.Default != "" && isn(s.Default), "ErrTarget", at+".Default")
	}
	l.add(has(s, "w") && s.WaitKind == 1 && !within(s.Seconds, "0", "2147483647"), "ErrRange", at+".Seconds")
	l.add(has(s, "w") && !within(s.WaitKind, "1", "4"), "ErrRange", at)
	if has(s, "p") {
		l.add(!within(len(s.Parts), "1", "1024"), "ErrRange", at+".Branches")
		for i, m := range s.Parts {
			modelMachine(l, m, at+".Branches["+strconv.Itoa(i)+"]", deep+1)
		}
	}
	if has(s, "m") {
		l.add(!within(s.Most, "0", "2147483647"), "ErrRange", at+".MaxConcurrency")
		l.add(len(s.Parts) == 0, "ErrLacks", at+".Iterator")
		for _, m := range s.Parts[:min(1, len(s.Parts))] {
			modelMachine(l, m, at+".Iterator", deep+1)
		}
	}
}

// modelNames tells of the names of a retrier or catcher with which so many are left.
func modelNames(l *lines, names []string, at string, left int) {
	all := 0
	for _, name := range names {
		if name == "States.ALL" {
			all++
		}
	}
	l.add(len(names) == 0, "ErrRange", at+".ErrorEquals")
	l.add(all > 1 || all == 1 && len(names) > 1, "ErrOrder", at+".ErrorEquals")
	l.add(all > 0 && left > 1, "ErrOrder", at)
}

// modelRule keeps the rules that are still to be told in a row, of which those within the first one come ahead of the others.
func modelRule(l *lines, r api.Rule, at string) {
	type open struct {
		rule api.Rule
		at   string
	}
	row := []open{{r, at}}
	for len(row) > 0 {
		r, at := row[0].rule, row[0].at
		row = row[1:]
		var inner []open
		if r.Op == 3 {
			l.add(len(r.All) != 1, "ErrRange", at+".Not")
			for _, first := range r.All[:min(1, len(r.All))] {
				inner = append(inner, open{first, at + ".Not"})
			}
		}
		if r.Op == 1 || r.Op == 2 {
			at += map[int]string{1: ".And", 2: ".Or"}[r.Op]
			l.add(len(r.All) == 0, "ErrRange", at)
			for i, one := range r.All {
				inner = append(inner, open{one, at + "[" + strconv.Itoa(i) + "]"})
			}
		}
		row = append(inner, row...)
	}
}
