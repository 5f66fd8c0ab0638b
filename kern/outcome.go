package kern

import (
	"slices"

	"voyage/api"
	"voyage/json"
	"voyage/sound"
)

// taken gives an outcome as it is taken.
func taken(o api.Outcome) api.Outcome {
	if o.Fine && sound.Is(o.Value) {
		return api.Outcome{Fine: true, Value: json.Norm(o.Value)}
	}
	wrong, cause := said(o.Error), said(o.Cause)
	if o.Fine || len(wrong)+len(cause) > api.MaxText {
		return api.Outcome{Error: limitName}
	}
	return api.Outcome{Error: wrong, Cause: cause}
}

// said gives a text in UTF-8.
func said(s string) string { return json.Norm(textOf(s)).Text }

// sameOutcome tells whether two outcomes are told alike, field by field.
func sameOutcome(a, b api.Outcome) bool {
	return a.Fine == b.Fine && a.Error == b.Error && a.Cause == b.Cause && sameValue(a.Value, b.Value)
}

func sameValue(a, b api.Value) bool {
	return a.Kind == b.Kind && a.Truth == b.Truth && a.Num == b.Num && a.Text == b.Text &&
		slices.EqualFunc(a.List, b.List, sameValue) && slices.EqualFunc(a.Fields, b.Fields, sameField)
}

func sameField(a, b api.Field) bool { return a.Name == b.Name && sameValue(a.Value, b.Value) }
