package call

import (
	"slices"
	"strings"

	"voyage/api"
	"voyage/dec"
	"voyage/json"
)

// function is a row of the table: what a function takes, and what it tells.
type function struct {
	name     string
	kinds    []int                                    // of the arguments that it must have
	more     bool                                     // any number of others may follow, of any kind
	inPieces bool                                     // the first is a text in quotes, with a `{}` for each of the others; it comes as the list of its pieces
	tell     func(args []api.Value) (api.Value, bool) // false: an argument isn't as it must be
}

// anyKind stands for every kind of values.
const anyKind = -1

// functions is the table of all functions that there are.
func functions() []function {
	return []function{
		{name: "Format", kinds: []int{api.List}, more: true, inPieces: true, tell: format},
		{name: "Array", more: true, tell: array},
		{name: "ArrayPartition", kinds: []int{api.List, api.Number}, tell: arrayPartition},
		{name: "ArrayContains", kinds: []int{api.List, anyKind}, tell: arrayContains},
		{name: "ArrayGetItem", kinds: []int{api.List, api.Number}, tell: arrayGetItem},
		{name: "ArrayLength", kinds: []int{api.List}, tell: arrayLength},
		{name: "ArrayUnique", kinds: []int{api.List}, tell: arrayUnique},
		{name: "StringSplit", kinds: []int{api.Text, api.Text}, tell: stringSplit},
		{name: "StringToJson", kinds: []int{api.Text}, tell: stringToJSON},
		{name: "JsonToString", kinds: []int{anyKind}, tell: jsonToString},
		{name: "JsonMerge", kinds: []int{api.Object, api.Object}, tell: jsonMerge},
		{name: "MathAdd", kinds: []int{api.Number, api.Number}, tell: mathAdd},
	}
}

// functionOf gives the function of this name.
func functionOf(name string) (function, bool) {
	table := functions()
	i := slices.IndexFunc(table, func(f function) bool { return f.name == name })
	if i < 0 {
		return function{}, false
	}
	return table[i], true
}

// takes tells whether a function can be called with as many arguments as were read, and with such a first one.
func (f function) takes(arguments []argument) bool {
	if len(arguments) < len(f.kinds) || len(arguments) > len(f.kinds) && !f.more {
		return false
	}
	return !f.inPieces || len(arguments[0].pieces) == len(arguments) // what is no text in quotes has no pieces
}

// fits tells whether the arguments are of the kinds that they must be.
func (f function) fits(args []api.Value) bool {
	for i, kind := range f.kinds {
		if kind != anyKind && kind != args[i].Kind {
			return false
		}
	}
	return true
}

func format(args []api.Value) (api.Value, bool) {
	pieces, others := args[0].List, args[1:]
	var out strings.Builder
	out.WriteString(pieces[0].Text)
	for i, v := range others {
		out.WriteString(asText(v))
		out.WriteString(pieces[i+1].Text)
	}
	return textOf(out.String())
}

// asText tells a value where it is put into a text.
func asText(v api.Value) string {
	if v.Kind == api.Text {
		return v.Text
	}
	return json.Print(v)
}

func array(args []api.Value) (api.Value, bool) {
	return listOf(args)
}

func arrayPartition(args []api.Value) (api.Value, bool) {
	list, n := args[0].List, args[1].Num
	if dec.Norm(n).Exp < 0 || dec.Cmp(n, dec.Of(1)) < 0 {
		return api.Value{}, false
	}
	size := len(list) + 1 // as good as any that is greater
	if i, ok := dec.Int(n); ok && i < int64(size) {
		size = int(i)
	}
	var parts []api.Value
	for part := range slices.Chunk(list, size) {
		parts = append(parts, api.Value{Kind: api.List, List: part})
	}
	return listOf(parts)
}

func arrayContains(args []api.Value) (api.Value, bool) {
	wanted := json.Print(args[1])
	found := slices.ContainsFunc(args[0].List, func(v api.Value) bool { return json.Print(v) == wanted })
	return api.Value{Kind: api.Truth, Truth: found}, true
}

func arrayGetItem(args []api.Value) (api.Value, bool) {
	list := args[0].List
	i, ok := dec.Int(args[1].Num)
	if !ok || i < 0 || i >= int64(len(list)) {
		return api.Value{}, false
	}
	return list[i], true
}

func arrayLength(args []api.Value) (api.Value, bool) {
	return api.Value{Kind: api.Number, Num: dec.Of(int64(len(args[0].List)))}, true
}

func arrayUnique(args []api.Value) (api.Value, bool) {
	places := map[string]int{} // by the values' texts, which are the same where the values are
	var kept []api.Value
	for i, v := range args[0].List {
		text := json.Print(v)
		if _, twice := places[text]; !twice {
			places[text] = i
			kept = append(kept, v)
		}
	}
	return listOf(kept)
}

func stringSplit(args []api.Value) (api.Value, bool) {
	text, between := args[0].Text, args[1].Text
	if between == "" {
		return api.Value{}, false
	}
	return textList(strings.SplitN(text, between, api.MaxText)), true // as many pieces can't be sound, so no room is taken for more
}

func stringToJSON(args []api.Value) (api.Value, bool) {
	v, err := json.Parse(args[0].Text)
	return v, err == nil
}

func jsonToString(args []api.Value) (api.Value, bool) {
	return textOf(json.Print(args[0]))
}

func jsonMerge(args []api.Value) (api.Value, bool) {
	fields := slices.Concat(args[1].Fields, args[0].Fields) // of fields with one name the first counts
	return api.Value{Kind: api.Object, Fields: fields}, true
}

func mathAdd(args []api.Value) (api.Value, bool) {
	sum, err := dec.Add(args[0].Num, args[1].Num)
	return api.Value{Kind: api.Number, Num: sum}, err == nil
}

// textList gives the list of these texts.
func textList(texts []string) api.Value {
	var list []api.Value
	for _, text := range texts {
		list = append(list, api.Value{Kind: api.Text, Text: text})
	}
	return api.Value{Kind: api.List, List: list}
}

func textOf(text string) (api.Value, bool) {
	return api.Value{Kind: api.Text, Text: text}, true
}

func listOf(list []api.Value) (api.Value, bool) {
	return api.Value{Kind: api.List, List: list}, true
}
