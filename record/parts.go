package record

import (
	"math"
	"unicode/utf8"

	"voyage/api"
	"voyage/json"
	"voyage/sound"
)

// The parts that events are made of.
const (
	noPart = iota
	machinePart
	inputPart
	fuelPart
	placePart
	outcomePart
	timePart
)

// mostParts is how many of them an event has at most.
const mostParts = 3

// partsOfKinds tells the parts of each kind, in order, at the kind's number; behind the last one stands noPart.
var partsOfKinds = [...][mostParts]int{
	api.EvBegun:  {machinePart, inputPart, fuelPart},
	api.EvMoved:  {placePart},
	api.EvAsked:  {placePart},
	api.EvTold:   {placePart, outcomePart},
	api.EvSet:    {placePart, timePart},
	api.EvFired:  {placePart, timePart},
	api.EvJoined: {placePart},
}

// partsOf gives the parts of a kind; false, if there is no such kind.
func partsOf(kind int) ([mostParts]int, bool) {
	if kind < api.EvBegun || kind >= len(partsOfKinds) {
		return [mostParts]int{}, false
	}
	return partsOfKinds[kind], true
}

// Bounds of the parts that package api has no limit for.
const (
	leastFuel   = 1
	mostNumbers = 3 * api.MaxDepth // of a place: each fan-out on the way tells a visit, an attempt and a part
	mostNumber  = math.MaxInt32
)

// A count has seven bits in a byte, whose highest bit says that there are more.
const (
	groupBits  = 7
	moreGroups = 1 << groupBits
	mostGroups = 9 // all that an int64 holds, so that none wraps round; what needs more is above each bound
)

// The byte that an outcome begins with.
const (
	failedMark = 0
	fineMark   = 1
)

// tellable says whether an outcome may be told.
func tellable(o api.Outcome) bool {
	if o.Fine {
		return o.Error == "" && o.Cause == "" && sound.Is(o.Value)
	}
	return isNull(o.Value) && utf8.ValidString(o.Error) && utf8.ValidString(o.Cause) && len(o.Error)+len(o.Cause) <= api.MaxText
}

// isNull leaves it to json which kinds count as null.
func isNull(v api.Value) bool { return json.Same(v, api.Value{}) }
