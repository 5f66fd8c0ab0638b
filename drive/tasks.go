package drive

import (
	"voyage/api"
	"voyage/json"
)

// nobodyName is the error of a task that no answer fits.
const nobodyName = "States.TaskFailed"

// Tasks is who does the tasks.
type Tasks interface {
	Do(k api.Key) api.Outcome
}

// oracle does tasks as its answers say.
type oracle struct {
	answers []api.Answer
}

// Answers does tasks as answers say: P17.2.
func Answers(l []api.Answer) Tasks {
	o := &oracle{}
	for _, a := range l {
		a.Outcome = ownOutcome(a.Outcome)
		o.answers = append(o.answers, a)
	}
	return o
}

// Do gives the outcome of the first answer that fits.
func (o *oracle) Do(k api.Key) api.Outcome {
	for _, a := range o.answers {
		if a.Resource == k.Resource && (a.Attempt == 0 || a.Attempt == k.Attempt) {
			return ownOutcome(a.Outcome)
		}
	}
	return api.Outcome{Error: nobodyName}
}

// ownOutcome gives an outcome in memory of its own.
func ownOutcome(o api.Outcome) api.Outcome {
	o.Value = json.Norm(o.Value)
	return o
}
