package record

import (
	"voyage/api"
	"voyage/json"
)

// writer tells parts one behind the other. What may not be told sets refused, for good; the bytes mean nothing then.
type writer struct {
	told    []byte
	refused bool
}

func (w *writer) event(e api.Event) {
	parts, ok := partsOf(e.Kind)
	if !ok {
		w.refused = true
		return
	}
	w.add(byte(e.Kind))
	for _, part := range parts {
		w.part(part, e)
	}
}

func (w *writer) part(part int, e api.Event) {
	switch part {
	case machinePart:
		w.text(e.Machine)
	case inputPart:
		w.text(e.Input)
	case fuelPart:
		w.count(int64(e.Fuel), leastFuel, api.MaxFuel)
	case placePart:
		w.place(e.Place)
	case outcomePart:
		w.outcome(e.Outcome)
	case timePart:
		w.count(e.Time, 0, api.MaxTime)
	}
}

func (w *writer) add(b byte) { w.told = append(w.told, b) }

func (w *writer) count(n, least, most int64) {
	if w.refused || n < least || n > most {
		w.refused = true
		return
	}
	for n >= moreGroups {
		w.add(byte(n%moreGroups) + moreGroups)
		n /= moreGroups
	}
	w.add(byte(n))
}

func (w *writer) text(text string) {
	w.count(int64(len(text)), 0, api.MaxText)
	if w.refused { // it may be too long to be worth the room
		return
	}
	w.told = append(w.told, text...)
}

func (w *writer) place(numbers []int) {
	w.count(int64(len(numbers)), 0, mostNumbers)
	for _, n := range numbers {
		w.count(int64(n), 0, mostNumber)
	}
}

func (w *writer) outcome(o api.Outcome) {
	switch {
	case !tellable(o):
		w.refused = true
	case o.Fine:
		w.add(fineMark)
		w.text(json.Print(o.Value))
	default:
		w.add(failedMark)
		w.text(o.Error)
		w.text(o.Cause)
	}
}
