package def

import (
	"voyage/api"
	"voyage/dec"
	"voyage/path"
)

func tellText(text string) api.Value {
	return api.Value{Kind: api.Text, Text: text}
}

func tellTruth(truth bool) api.Value {
	return api.Value{Kind: api.Truth, Truth: truth}
}

func tellNumber(number api.Dec) api.Value {
	return api.Value{Kind: api.Number, Num: number}
}

func tellWhole(number int) api.Value {
	return tellNumber(dec.Of(int64(number)))
}

func tellPath(p api.Path) api.Value {
	return tellText(path.Text(p))
}

// tellWay tells a path that may be null; false, if it isn't there.
func tellWay(p api.Path) (api.Value, bool) {
	if p.Nothing {
		return api.Value{}, p.Set
	}
	return tellPath(p), p.Set
}

func tellNames(names []string) api.Value {
	return tellList(names, func(name *string) api.Value { return tellText(*name) })
}

// tellList tells a list, each element of it by tell.
func tellList[T any](items []T, tell func(*T) api.Value) api.Value {
	told := api.Value{Kind: api.List}
	for i := range items {
		told.List = append(told.List, tell(&items[i]))
	}
	return told
}
