package retry

import "voyage/api"

// Names that stand for more errors than the one that is called so, and those that they leave out.
const (
	allErrors  = "States.ALL"
	taskFailed = "States.TaskFailed"
	timeout    = "States.Timeout"
	outOfFuel  = "States.OutOfFuel"
)

// speaks tells whether one of the names of a retrier or catcher speaks of an error.
func speaks(word, name string) bool {
	switch word {
	case taskFailed:
		if name == timeout {
			return false
		}
		fallthrough // but for that one it stands for all
	case allErrors:
		return true
	}
	return word == name
}

// first gives the place of the first one whose names speak of an error; 0 and false, if none's do.
func first[T any](l []T, names func(*T) []string, name string) (int, bool) {
	for i := range l {
		if Matches(names(&l[i]), name) {
			return i, true
		}
	}
	return 0, false
}

func retrierNames(r *api.Retrier) []string { return r.Errors }

func catcherNames(c *api.Catcher) []string { return c.Errors }
