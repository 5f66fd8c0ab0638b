package dry

import (
	"voyage/api"
	"voyage/json"
	"voyage/sound"
)

// taken gives an outcome as it is taken.
func taken(o api.Outcome) api.Outcome {
	if o.Fine {
		if !sound.Is(o.Value) {
			return api.Outcome{Error: limitName}
		}
		return api.Outcome{Fine: true, Value: json.Norm(o.Value)}
	}
	name, cause := said(o.Error), said(o.Cause)
	if len(name)+len(cause) > api.MaxText {
		return api.Outcome{Error: limitName}
	}
	return api.Outcome{Error: name, Cause: cause}
}

// said gives a text in UTF-8.
func said(s string) string { return json.Norm(textOf(s)).Text }
