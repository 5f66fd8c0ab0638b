package dry

import (
	"slices"
	"strconv"

	"voyage/api"
	"voyage/tally"
)

// How many events of chapter 15 tell what is done.
const (
	moved        = 1
	askedAndTold = 2
	setAndFired  = 2
	joined       = 1
)

// run is what all frames have in common.
type run struct {
	input    api.Value // of the whole
	answers  []api.Answer
	winners  map[string]int // the part that is told to win, by its fan-out's place
	fuel     int
	place    []int // of the frame that is being run: parts are run one behind the other, so one list does for all, however deep they stand
	steps    int64
	contests []api.Contest
}

// newFrame gives a frame that has entered no state yet.
func (r *run) newFrame(m *api.Machine) *frame {
	return &frame{run: r, machine: m, left: r.fuel}
}

// count counts events.
func (r *run) count(events int64) { r.steps = tally.Add(r.steps, events) }

// outcome gives what comes of an attempt of a task.
func (r *run) outcome(resource string, attempt int) api.Outcome {
	for i := range r.answers {
		a := &r.answers[i]
		if a.Resource == resource && (a.Attempt == 0 || a.Attempt == attempt) {
			return taken(a.Outcome)
		}
	}
	return api.Outcome{Error: taskFailedName}
}

// goInto goes on at the place of a part, goBack at that of its fan-out's frame.
func (r *run) goInto(visit, attempt, number int) {
	r.place = append(r.place, visit, attempt, number)
}

func (r *run) goBack() { r.place = r.place[:len(r.place)-3] }

// decide notes which of the parts that can win does, of a fan-out of the frame that is being run, and gives its number.
func (r *run) decide(visit, attempt int, can []int) int {
	place := slices.Concat(r.place, []int{visit, attempt})
	won := can[0]
	if told, isTold := r.winners[placeText(place)]; isTold && slices.Contains(can, told) {
		won = told
	}
	r.contests = append(r.contests, api.Contest{Place: place, Parts: can, Won: won})
	return won
}

// firstByPlace gives, by each place that is told, the part that is told first.
func firstByPlace(w []api.Winner) map[string]int {
	parts := map[string]int{}
	for i := range w {
		place := placeText(w[i].Place)
		if _, isTold := parts[place]; !isTold {
			parts[place] = w[i].Part
		}
	}
	return parts
}

// placeText tells a place by a text, which may be a map's key, as a list may not.
func placeText(place []int) string {
	var text []byte
	for _, number := range place {
		text = strconv.AppendInt(text, int64(number), 10)
		text = append(text, ' ')
	}
	return string(text)
}
