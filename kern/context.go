package kern

import (
	"voyage/api"
	"voyage/dec"
	"voyage/pipe"
)

// in gives what a frame's state works on, or an error's name.
func (f *frame) in() (api.Value, string) {
	return pipe.In(*f.state, f.Raw, f.context())
}

// context gives the context of a frame.
func (f *frame) context() api.Value {
	nearest := f
	for nearest != nil && nearest.Index < 0 {
		nearest = nearest.fan
	}
	return f.contextWithin(nearest)
}

// contextWithin gives the context of a frame's state with the item of a Map's part; of nil there is none.
func (f *frame) contextWithin(part *frame) api.Value {
	execution := objectOf(api.Field{Name: "Input", Value: f.run.input})
	state := objectOf(api.Field{Name: "Name", Value: textOf(f.At)}, api.Field{Name: "RetryCount", Value: numberOf(f.Attempt - 1)})
	fields := []api.Field{{Name: "Execution", Value: execution}, {Name: "State", Value: state}}
	if part != nil {
		item := objectOf(api.Field{Name: "Index", Value: numberOf(part.Index)}, api.Field{Name: "Value", Value: part.Item})
		fields = append(fields, api.Field{Name: "Map", Value: objectOf(api.Field{Name: "Item", Value: item})})
	}
	return objectOf(fields...)
}

func objectOf(fields ...api.Field) api.Value { return api.Value{Kind: api.Object, Fields: fields} }

func textOf(s string) api.Value { return api.Value{Kind: api.Text, Text: s} }

func numberOf(n int) api.Value { return api.Value{Kind: api.Number, Num: dec.Of(int64(n))} }
