package def

import (
	"slices"

	"voyage/api"
)

// field is a field that an object may have which tells a T.
type field[T any] struct {
	name  string
	wants string // the name of what is missing, where neither this field nor another one that wants it is there; just one of these may be. Empty: nothing is missing without it
	read  func(*T, *node)
	tell  func(*T) (api.Value, bool) // false: it isn't told
}

// comment is the field that counts for nothing.
func comment[T any]() field[T] {
	return field[T]{
		name: "Comment",
		read: func(_ *T, n *node) { n.text() },
		tell: func(*T) (api.Value, bool) { return api.Value{}, false },
	}
}

// readFields reads an object that may have these fields, which are told in the order in which they are missed.
func readFields[T any](into *T, n *node, fields []field[T]) {
	n.need(api.Object)
	wanting := map[string]struct{}{}
	for _, f := range fields {
		if f.wants != "" {
			wanting[f.wants] = struct{}{}
		}
	}
	for _, f := range n.value.Fields {
		readField(into, n.member(f.Name, f.Value), fields, wanting)
	}
	for _, f := range fields {
		_, is := wanting[f.wants]
		n.member(f.wants, api.Value{}).check(!is, api.ErrLacks)
	}
}

// readField reads the field that stands at n. What it wants isn't wanting any more then; if it wasn't ahead of it either, the field is one too many.
func readField[T any](into *T, n *node, fields []field[T], wanting map[string]struct{}) {
	i := slices.IndexFunc(fields, func(f field[T]) bool { return f.name == n.step.Name })
	n.check(i >= 0, api.ErrField)
	if i < 0 {
		return
	}
	f := fields[i]
	_, is := wanting[f.wants]
	n.check(is || f.wants == "", api.ErrField)
	delete(wanting, f.wants)
	f.read(into, n)
}

// tellFields tells an object of those of these fields that are told.
func tellFields[T any](of *T, fields []field[T]) api.Value {
	told := api.Value{Kind: api.Object}
	for _, f := range fields {
		if v, is := f.tell(of); is {
			told.Fields = append(told.Fields, api.Field{Name: f.name, Value: v})
		}
	}
	return told
}
