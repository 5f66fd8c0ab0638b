package def

import (
	"voyage/api"
	"voyage/dec"
	"voyage/json"
)

// ownState gives a state, which shares its lists with the one that it was copied from, lists of its own.
func ownState(s *api.State) {
	ownPath(&s.Input)
	ownPath(&s.Output)
	ownPath(&s.Result)
	s.Parameters = json.Norm(s.Parameters)
	s.Selector = json.Norm(s.Selector)
	s.Fixed = json.Norm(s.Fixed)
	s.Retry = own(s.Retry, ownRetrier)
	s.Catch = own(s.Catch, ownCatcher)
	s.Rules = own(s.Rules, ownRule)
	ownPath(&s.AtPath)
	s.Parts = own(s.Parts, ownMachine)
	ownPath(&s.Items)
}

func ownMachine(m *api.Machine) {
	m.States = own(m.States, ownState)
}

func ownRule(r *api.Rule) {
	r.All = own(r.All, ownRule)
	ownPath(&r.Var)
	r.With = json.Norm(r.With)
	ownPath(&r.At)
}

func ownRetrier(r *api.Retrier) {
	r.Errors = own(r.Errors, nothing)
	r.Rate = dec.Norm(r.Rate)
}

func ownCatcher(c *api.Catcher) {
	c.Errors = own(c.Errors, nothing)
	ownPath(&c.Result)
}

func ownPath(p *api.Path) {
	p.Steps = own(p.Steps, nothing)
}

// nothing is what an element has that has no lists.
func nothing[T any](*T) {}

// own copies a list, and then what each of its elements has.
func own[T any](items []T, inner func(*T)) []T {
	items = append([]T(nil), items...)
	for i := range items {
		inner(&items[i])
	}
	return items
}
