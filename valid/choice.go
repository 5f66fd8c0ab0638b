package valid

import "voyage/api"

// The operators that are of other rules.
const (
	opAnd = iota + 1
	opOr
	opNot
)

func checkChoice(s *api.State, at *place, in scope) {
	choices := at.member("Choices")
	choices.check(len(s.Rules) > 0, api.ErrRange)
	for i := range s.Rules {
		r, stands := &s.Rules[i], choices.element(i)
		checkRule(r, stands)
		checkTarget(r.Next, stands.member("Next"), in)
	}
	checkMaybe(s.Default, at.member("Default"), in)
}

// checkRule finds the faults of a rule, and then of those within it.
func checkRule(r *api.Rule, at *place) {
	switch r.Op {
	case opAnd:
		checkAll(r.All, at.member("And"))
	case opOr:
		checkAll(r.All, at.member("Or"))
	case opNot:
		checkOne(r.All, at.member("Not"))
	}
}

func checkAll(rules []api.Rule, at *place) {
	at.check(len(rules) > 0, api.ErrRange)
	for i := range rules {
		checkRule(&rules[i], at.element(i))
	}
}

// checkOne goes into the first rule alone: of a Not the others are told nowhere.
func checkOne(rules []api.Rule, at *place) {
	at.check(len(rules) == 1, api.ErrRange)
	if len(rules) > 0 {
		checkRule(&rules[0], at)
	}
}
