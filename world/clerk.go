package world

import (
	"slices"

	"voyage/api"
	"voyage/drive"
)

// clerk does tasks as others would, and notes who was asked: one clerk for all engines of a world, so that the notes outlast a crash.
type clerk struct {
	tasks drive.Tasks
	asked []api.Key
}

// Do notes a key, which is new memory, and does its task; those that answer by a list don't change it.
func (c *clerk) Do(k api.Key) api.Outcome {
	c.asked = append(c.asked, k)
	return c.tasks.Do(k)
}

// told gives the notes, in memory of their own.
func (c *clerk) told() []api.Key {
	var keys []api.Key
	for _, k := range c.asked {
		keys = append(keys, ownKey(k))
	}
	return keys
}

func ownKey(k api.Key) api.Key {
	k.Place, k.Input = slices.Clone(k.Place), ownValue(k.Input)
	return k
}

// ownValue gives a value in memory of its own; it is in the one form, since the engine told it.
func ownValue(v api.Value) api.Value {
	var list []api.Value
	for _, x := range v.List {
		list = append(list, ownValue(x))
	}
	var fields []api.Field
	for _, f := range v.Fields {
		fields = append(fields, api.Field{Name: f.Name, Value: ownValue(f.Value)})
	}
	v.List, v.Fields = list, fields
	return v
}
