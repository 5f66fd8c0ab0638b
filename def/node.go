package def

import (
	"math"
	"slices"

	"voyage/api"
	"voyage/dec"
	"voyage/path"
	"voyage/stamp"
)

// node is a value, in the one form, within the one that is read, and the way to it, by which a fault is told where it is.
type node struct {
	value api.Value
	step  api.Step // by which it is come to from up
	up    *node    // nil: this is the whole
	found *api.Fault
}

// check finds a fault here, unless ok. All nodes have one found, in which the first fault stays: so reading goes on behind a fault, and the order of the checks is all that tells which one is answered.
func (n *node) check(ok bool, err error) {
	if !ok && n.found.Err == nil {
		*n.found = api.Fault{Where: n.where(), Err: err}
	}
}

// where tells the path to the node.
func (n *node) where() string {
	var steps []api.Step
	for at := n; at.up != nil; at = at.up {
		steps = append(steps, at.step)
	}
	slices.Reverse(steps)
	return path.Text(api.Path{Steps: steps})
}

// member is the node of a field of an object; of one that is missing, too.
func (n *node) member(name string, value api.Value) *node {
	return &node{value: value, step: api.Step{Name: name}, up: n, found: n.found}
}

// element is the node of an element of a list.
func (n *node) element(place int, value api.Value) *node {
	return &node{value: value, step: api.Step{Place: place, IsAt: true}, up: n, found: n.found}
}

// need wants a value of this Kind. Of another one, which is in the one form, all that this Kind has is zero.
func (n *node) need(kind int) {
	n.check(n.value.Kind == kind, api.ErrKind)
}

func (n *node) text() string {
	n.need(api.Text)
	return n.value.Text
}

func (n *node) truth() bool {
	n.need(api.Truth)
	return n.value.Truth
}

func (n *node) number() api.Dec {
	n.need(api.Number)
	return n.value.Num
}

func (n *node) name() string {
	text := n.text()
	n.check(text != "", api.ErrRange)
	return text
}

func (n *node) whole() int {
	number, ok := dec.Int(n.number())
	n.check(ok && number >= 0 && number <= math.MaxInt32, api.ErrRange)
	return int(number)
}

func (n *node) path() api.Path {
	p, err := path.Parse(n.text())
	n.check(err == nil, api.ErrPath)
	return p
}

func (n *node) way() api.Path {
	if n.value.Kind == api.Null {
		return api.Path{Set: true, Nothing: true}
	}
	return n.path()
}

func (n *node) plainWay() api.Path {
	p := n.way()
	n.check(p.Nothing || path.Plain(p), api.ErrPath)
	return p
}

// moment wants one that can be told again, too.
func (n *node) moment() api.Instant {
	t, wrong := stamp.Parse(n.text())
	_, untold := stamp.Text(t)
	n.check(wrong == nil && untold == nil, api.ErrTime)
	return t
}

func (n *node) names() []string {
	return list(n, (*node).text)
}

// list reads a list, each element of it by read.
func list[T any](n *node, read func(*node) T) []T {
	n.need(api.List)
	var items []T
	for i, v := range n.value.List {
		items = append(items, read(n.element(i, v)))
	}
	return items
}
