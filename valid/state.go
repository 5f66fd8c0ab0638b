package valid

import (
	"math"

	"voyage/api"
)

const mostWhole = math.MaxInt32 // the greatest number that def reads as a whole

// hasNext tells whether states of this type have Next.
func hasNext(kind int) bool {
	return kind == api.Pass || kind == api.Wait || isTried(kind)
}

// isTried tells whether states of this type have retriers and catchers.
func isTried(kind int) bool {
	return kind == api.Task || kind == api.Parallel || kind == api.Map
}

// checkState finds the faults of a state: P9.2. Of a type that is none a state has nothing else.
func checkState(s *api.State, at *place, in scope) {
	at.bound("Type", s.Type, api.Pass, api.Map)
	if hasNext(s.Type) {
		checkMaybe(s.Next, at.member("Next"), in)
	}
	if isTried(s.Type) {
		checkTries(s, at, in)
	}
	switch s.Type {
	case api.Choice:
		checkChoice(s, at, in)
	case api.Wait:
		checkWait(s, at)
	case api.Parallel:
		checkParallel(s, at, in)
	case api.Map:
		checkMap(s, at, in)
	}
}

// checkTarget wants a state of this name.
func checkTarget(name string, at *place, in scope) {
	at.check(in.has(name), api.ErrTarget)
}

// checkMaybe wants a state of this name, unless it is empty: then none is named.
func checkMaybe(name string, at *place, in scope) {
	if name != "" {
		checkTarget(name, at, in)
	}
}

// What a Wait goes by, as WaitKind says.
const (
	bySeconds       = 1
	byTimestampPath = 4 // the last one
)

func checkWait(s *api.State, at *place) {
	if s.WaitKind == bySeconds {
		at.bound("Seconds", s.Seconds, 0, mostWhole)
	}
	at.check(s.WaitKind >= bySeconds && s.WaitKind <= byTimestampPath, api.ErrRange)
}

func checkParallel(s *api.State, at *place, in scope) {
	at.bound("Branches", len(s.Parts), 1, api.MaxParts)
	branches := at.member("Branches")
	for i := range s.Parts {
		checkMachine(&s.Parts[i], branches.element(i), in.deep+1)
	}
}

func checkMap(s *api.State, at *place, in scope) {
	at.bound("MaxConcurrency", s.Most, 0, mostWhole)
	iterator := at.member("Iterator")
	if len(s.Parts) == 0 {
		iterator.check(false, api.ErrLacks)
		return
	}
	checkMachine(&s.Parts[0], iterator, in.deep+1)
}
