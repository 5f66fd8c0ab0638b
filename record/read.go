package record

import (
	"voyage/api"
	"voyage/json"
)

// reader stands ahead of the bytes that are left. What isn't just as a writer tells it sets refused, for good; what is read then means nothing.
type reader struct {
	left    []byte
	refused bool
}

func (r *reader) event() api.Event {
	e := api.Event{Kind: int(r.next())}
	parts, ok := partsOf(e.Kind)
	if !ok {
		r.refused = true
		return e
	}
	for _, part := range parts {
		r.part(part, &e)
	}
	return e
}

func (r *reader) part(part int, e *api.Event) {
	switch part {
	case machinePart:
		e.Machine = r.text()
	case inputPart:
		e.Input = r.text()
	case fuelPart:
		e.Fuel = int(r.count(leastFuel, api.MaxFuel))
	case placePart:
		e.Place = r.place()
	case outcomePart:
		e.Outcome = r.outcome()
	case timePart:
		e.Time = r.count(0, api.MaxTime)
	}
}

// next gives the next byte; 0, if there is none.
func (r *reader) next() byte {
	if len(r.left) == 0 {
		r.refused = true
		return 0
	}
	return r.cut(1)[0]
}

// cut takes n of the bytes that are left, which must be there. They have no room behind them: whatever is done with them, it can't reach the others.
func (r *reader) cut(n int) []byte {
	piece := r.left[:n:n]
	r.left = r.left[n:]
	return piece
}

// count reads a count from least to most; 0, if none stands here.
func (r *reader) count(least, most int64) int64 {
	n := int64(0)
	for i := range mostGroups {
		group := r.next()
		n += int64(group%moreGroups) << (groupBits * i)
		if group >= moreGroups {
			continue
		}
		if i > 0 && group == 0 || n < least || n > most { // the first: it has more bytes than need be
			break
		}
		return n
	}
	r.refused = true
	return 0
}

func (r *reader) text() string {
	n := int(r.count(0, api.MaxText))
	if n > len(r.left) {
		r.refused = true
		return ""
	}
	return string(r.cut(n))
}

func (r *reader) place() []int {
	var numbers []int
	for range r.count(0, mostNumbers) {
		numbers = append(numbers, int(r.count(0, mostNumber)))
	}
	return numbers
}

func (r *reader) outcome() api.Outcome {
	switch r.next() {
	case fineMark:
		return api.Outcome{Fine: true, Value: r.value()}
	case failedMark:
		return r.failure()
	}
	r.refused = true
	return api.Outcome{}
}

// value reads a value's text. What is read so is sound: Parse takes nothing deeper, and the text, which Print tells of it, isn't longer.
func (r *reader) value() api.Value {
	text := r.text()
	v, err := json.Parse(text)
	if err != nil || json.Print(v) != text {
		r.refused = true
	}
	return v
}

func (r *reader) failure() api.Outcome {
	var o api.Outcome
	o.Error = r.text()
	o.Cause = r.text()
	if !tellable(o) {
		r.refused = true
	}
	return o
}
