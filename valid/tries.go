package valid

import (
	"slices"

	"voyage/api"
	"voyage/dec"
)

const (
	allErrors    = "States.ALL" // stands for every error, so nothing beside it or behind it would ever be asked
	mostAttempts = 99
	leastRate    = 1
	mostRate     = 1000
)

// checkTries finds the faults of a state's retriers and catchers.
func checkTries(s *api.State, at *place, in scope) {
	retry := at.member("Retry")
	for i := range s.Retry {
		checkRetrier(&s.Retry[i], retry.element(i), i == len(s.Retry)-1)
	}
	catch := at.member("Catch")
	for i := range s.Catch {
		c, stands := &s.Catch[i], catch.element(i)
		checkNames(c.Errors, stands, i == len(s.Catch)-1)
		checkTarget(c.Next, stands.member("Next"), in)
	}
}

func checkRetrier(r *api.Retrier, at *place, last bool) {
	checkNames(r.Errors, at, last)
	at.bound("IntervalSeconds", r.Interval, 1, mostWhole)
	at.bound("MaxAttempts", r.Most, 0, mostAttempts)
	fits := dec.Cmp(r.Rate, dec.Of(leastRate)) >= 0 && dec.Cmp(r.Rate, dec.Of(mostRate)) <= 0
	at.member("BackoffRate").check(fits, api.ErrRange)
	at.bound("MaxDelaySeconds", r.MaxDelay, 0, mostWhole)
}

// checkNames finds the faults of the names of a retrier or catcher: P9.3.
func checkNames(names []string, at *place, last bool) {
	every := slices.Contains(names, allErrors)
	equals := at.member("ErrorEquals")
	equals.check(len(names) > 0, api.ErrRange)
	equals.check(!every || len(names) == 1, api.ErrOrder)
	at.check(!every || last, api.ErrOrder)
}
