package dry

import (
	"voyage/api"
	"voyage/dec"
)

// item is that of a Map's part.
type item struct {
	index int
	value api.Value
}

// context gives the context of a frame.
func (f *frame) context() api.Value { return f.contextWith(f.item) }

// contextWith gives the context of a frame with the item of a Map's part; of nil there is none.
func (f *frame) contextWith(its *item) api.Value {
	execution := objectOf(api.Field{Name: "Input", Value: f.input})
	state := objectOf(api.Field{Name: "Name", Value: textOf(f.state.Name)}, api.Field{Name: "RetryCount", Value: numberOf(f.attempt - 1)})
	fields := []api.Field{{Name: "Execution", Value: execution}, {Name: "State", Value: state}}
	if its != nil {
		told := objectOf(api.Field{Name: "Index", Value: numberOf(its.index)}, api.Field{Name: "Value", Value: its.value})
		fields = append(fields, api.Field{Name: "Map", Value: objectOf(api.Field{Name: "Item", Value: told})})
	}
	return objectOf(fields...)
}

func objectOf(fields ...api.Field) api.Value { return api.Value{Kind: api.Object, Fields: fields} }

func textOf(s string) api.Value { return api.Value{Kind: api.Text, Text: s} }

func numberOf(n int) api.Value { return api.Value{Kind: api.Number, Num: dec.Of(int64(n))} }
