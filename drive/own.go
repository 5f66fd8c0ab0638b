package drive

import (
	"slices"

	"voyage/api"
	"voyage/json"
)

// What an engine answers is told in memory of its own, for it goes on with what it keeps.

func ownEvents(events []api.Event) []api.Event {
	var own []api.Event
	for _, x := range events {
		own = append(own, ownEvent(x))
	}
	return own
}

func ownEvent(x api.Event) api.Event {
	x.Place, x.Outcome = slices.Clone(x.Place), ownOutcome(x.Outcome)
	return x
}

func ownConfig(c api.Config) api.Config {
	own := api.Config{Fuel: c.Fuel}
	for _, f := range c.Frames {
		own.Frames = append(own.Frames, ownFrame(f))
	}
	return own
}

func ownFrame(f api.Frame) api.Frame {
	f.Place, f.Charged = slices.Clone(f.Place), slices.Clone(f.Charged)
	f.Raw, f.Item, f.Result = json.Norm(f.Raw), json.Norm(f.Item), json.Norm(f.Result)
	return f
}
