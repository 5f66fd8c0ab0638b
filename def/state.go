package def

import (
	"slices"

	"voyage/api"
	"voyage/json"
	"voyage/stamp"
)

// state is a state that is read or told.
type state api.State

const (
	typeField = "Type"
	noType    = 0 // any Type that is none of the eight counts as this one
)

// typeNames gives the names of the types, each at its number.
func typeNames() []string {
	return []string{api.Pass: "Pass", api.Task: "Task", api.Choice: "Choice", api.Wait: "Wait", api.Succeed: "Succeed", api.Fail: "Fail", api.Parallel: "Parallel", api.Map: "Map"}
}

// typeOf gives the number of a type's name.
func typeOf(name string) int {
	return max(noType, slices.Index(typeNames(), name))
}

// knownType gives the number that a Type counts as.
func knownType(number int) int {
	if number < api.Pass || number > api.Map {
		return noType
	}
	return number
}

func readState(n *node) api.State {
	n.need(api.Object)
	value, is := json.Get(n.value, typeField)
	at := n.member(typeField, value)
	at.check(is, api.ErrLacks)
	s := state{Name: n.step.Name}
	s.readType(at) // ahead of all fields, for it tells which ones there are
	readFields(&s, n, stateFields(s.Type))
	return api.State(s)
}

func tellState(s *api.State) api.Value {
	return tellFields((*state)(s), stateFields(s.Type))
}

func (s *state) readType(n *node) {
	s.Type = typeOf(n.text())
	n.check(s.Type != noType, api.ErrRange)
}

func (s *state) tellType() (api.Value, bool) {
	return tellText(typeNames()[knownType(s.Type)]), true
}

func (s *state) readNext(n *node)            { s.Next = n.name() }
func (s *state) tellNext() (api.Value, bool) { return tellText(s.Next), s.Next != "" }

// readEnd leaves Next empty: that is an end.
func (s *state) readEnd(n *node)            { n.check(n.truth(), api.ErrRange) }
func (s *state) tellEnd() (api.Value, bool) { return tellTruth(true), s.Next == "" }

func (s *state) readInput(n *node)            { s.Input = n.way() }
func (s *state) tellInput() (api.Value, bool) { return tellWay(s.Input) }

func (s *state) readOutput(n *node)            { s.Output = n.way() }
func (s *state) tellOutput() (api.Value, bool) { return tellWay(s.Output) }

func (s *state) readResult(n *node)            { s.Result = n.plainWay() }
func (s *state) tellResult() (api.Value, bool) { return tellWay(s.Result) }

func (s *state) readParameters(n *node)            { s.Parameters, s.HasParameters = n.value, true }
func (s *state) tellParameters() (api.Value, bool) { return s.Parameters, s.HasParameters }

func (s *state) readSelector(n *node)            { s.Selector, s.HasSelector = n.value, true }
func (s *state) tellSelector() (api.Value, bool) { return s.Selector, s.HasSelector }

func (s *state) readFixed(n *node)            { s.Fixed, s.HasFixed = n.value, true }
func (s *state) tellFixed() (api.Value, bool) { return s.Fixed, s.HasFixed }

func (s *state) readResource(n *node)            { s.Resource = n.name() }
func (s *state) tellResource() (api.Value, bool) { return tellText(s.Resource), true }

func (s *state) readRetry(n *node) { s.Retry = list(n, readRetrier) }
func (s *state) tellRetry() (api.Value, bool) {
	return tellList(s.Retry, tellRetrier), len(s.Retry) > 0
}

func (s *state) readCatch(n *node) { s.Catch = list(n, readCatcher) }
func (s *state) tellCatch() (api.Value, bool) {
	return tellList(s.Catch, tellCatcher), len(s.Catch) > 0
}

func (s *state) readRules(n *node)            { s.Rules = list(n, readChoice) }
func (s *state) tellRules() (api.Value, bool) { return tellList(s.Rules, tellChoice), true }

func (s *state) readDefault(n *node)            { s.Default = n.name() }
func (s *state) tellDefault() (api.Value, bool) { return tellText(s.Default), s.Default != "" }

func (s *state) readError(n *node)            { s.Error = n.text() }
func (s *state) tellError() (api.Value, bool) { return tellText(s.Error), s.Error != "" }

func (s *state) readCause(n *node)            { s.Cause = n.text() }
func (s *state) tellCause() (api.Value, bool) { return tellText(s.Cause), s.Cause != "" }

func (s *state) readBranches(n *node)            { s.Parts = list(n, readMachine) }
func (s *state) tellBranches() (api.Value, bool) { return tellList(s.Parts, tellMachine), true }

func (s *state) readIterator(n *node) { s.Parts = []api.Machine{readMachine(n)} }

func (s *state) tellIterator() (api.Value, bool) {
	if len(s.Parts) == 0 {
		return tellMachine(&api.Machine{}), true
	}
	return tellMachine(&s.Parts[0]), true
}

func (s *state) readItems(n *node)            { s.Items = n.path() }
func (s *state) tellItems() (api.Value, bool) { return tellWay(s.Items) }

func (s *state) readMost(n *node)            { s.Most = n.whole() }
func (s *state) tellMost() (api.Value, bool) { return tellWhole(s.Most), s.Most != 0 }

// What a Wait goes by, as WaitKind says.
const (
	bySeconds = iota + 1
	bySecondsPath
	byTimestamp
	byTimestampPath
)

func (s *state) readSeconds(n *node) {
	s.WaitKind, s.Seconds = bySeconds, n.whole()
}

func (s *state) tellSeconds() (api.Value, bool) {
	return tellWhole(s.Seconds), s.WaitKind == bySeconds
}

func (s *state) readSecondsPath(n *node) {
	s.WaitKind, s.AtPath = bySecondsPath, n.path()
}

func (s *state) tellSecondsPath() (api.Value, bool) {
	return tellPath(s.AtPath), s.WaitKind == bySecondsPath
}

func (s *state) readTimestamp(n *node) {
	s.WaitKind, s.Until = byTimestamp, n.moment()
}

func (s *state) tellTimestamp() (api.Value, bool) {
	text, _ := stamp.Text(s.Until) // beside an error it is empty, and so it is told
	return tellText(text), s.WaitKind == byTimestamp
}

func (s *state) readTimestampPath(n *node) {
	s.WaitKind, s.AtPath = byTimestampPath, n.path()
}

func (s *state) tellTimestampPath() (api.Value, bool) {
	return tellPath(s.AtPath), s.WaitKind == byTimestampPath
}
