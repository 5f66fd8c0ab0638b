package pipe

import (
	"errors"
	"slices"
	"strings"

	"voyage/api"
	"voyage/call"
	"voyage/json"
	"voyage/path"
	"voyage/sound"
)

// toldMark is what the name of a told field ends in.
const toldMark = ".$"

// Fill fills a template: P4.1 to P4.3. What was weighed so far is looked at on the way, not behind it: a path that stands in a template many times would make more than there is room for.
func Fill(t, input, ctx api.Value) (api.Value, error) {
	weighed := 0
	weigh := func(v api.Value) (api.Value, error) {
		weighed += len(json.Print(v))
		if weighed > api.MaxText {
			return api.Value{}, api.ErrLong
		}
		return v, nil
	}
	var fill func(api.Value) (api.Value, error)
	fillField := func(f api.Field) (api.Field, error) {
		name, isTold := strings.CutSuffix(f.Name, toldMark)
		if !isTold {
			v, err := fill(f.Value)
			return api.Field{Name: name, Value: v}, err
		}
		v, err := told(f.Value, input, ctx)
		if err != nil {
			return api.Field{}, err
		}
		v, err = weigh(v)
		return api.Field{Name: name, Value: v}, err
	}
	fill = func(t api.Value) (api.Value, error) {
		switch t.Kind {
		case api.List:
			list, err := each(t.List, fill)
			return api.Value{Kind: api.List, List: list}, err
		case api.Object:
			fields, err := each(lookedAt(t.Fields), fillField)
			return api.Value{Kind: api.Object, Fields: fields}, err
		}
		return weigh(t)
	}
	filled, err := fill(json.Norm(t))
	if err != nil {
		return api.Value{}, err
	}
	if !sound.Is(filled) {
		return api.Value{}, api.ErrLong
	}
	return json.Norm(filled), nil // names that are told no more may stand in another order
}

// each gives what comes of the items, one behind the other, up to the first at which something is wrong.
func each[T any](items []T, fill func(T) (T, error)) ([]T, error) {
	var out []T
	for _, item := range items {
		filled, err := fill(item)
		if err != nil {
			return nil, err
		}
		out = append(out, filled)
	}
	return out, nil
}

// lookedAt gives the fields of an object, which is in the one form, without those told ones beside which there is one of just the name behind them.
func lookedAt(fields []api.Field) []api.Field {
	var out []api.Field
	for _, f := range fields {
		name, isTold := strings.CutSuffix(f.Name, toldMark)
		if !isTold || !hasField(fields, name) {
			out = append(out, f)
		}
	}
	return out
}

// hasField tells whether one of these fields, which are there by rising names, has this name.
func hasField(fields []api.Field, name string) bool {
	_, found := slices.BinarySearchFunc(fields, name, func(f api.Field, name string) int {
		return strings.Compare(f.Name, name)
	})
	return found
}

// told gives what the value of a told field tells.
func told(v, input, ctx api.Value) (api.Value, error) {
	switch {
	case v.Kind != api.Text:
		return api.Value{}, api.ErrKind
	case call.Is(v.Text):
		return reckoned(v.Text, input, ctx)
	}
	p, err := path.Parse(v.Text)
	if err != nil {
		return api.Value{}, api.ErrPath
	}
	found, ok := path.Get(p, input, ctx)
	if !ok {
		return api.Value{}, api.ErrPath
	}
	return found, nil
}

// reckoned gives what a call tells. A fault of its text has a place in that text, which a template's owner doesn't know: so ErrCall stands for all of these.
func reckoned(s string, input, ctx api.Value) (api.Value, error) {
	v, err := call.Eval(s, input, ctx)
	var fault *api.Fault
	if errors.As(err, &fault) {
		return api.Value{}, api.ErrCall
	}
	return v, err
}
