package def_test

import (
	"regexp"
	"slices"
	"sort"
	"strconv"
	"strings"

	"voyage/api"
	"voyage/dec"
	"voyage/json"
	"voyage/path"
	"voyage/stamp"
)

// found is the first fault of a value by the model; none, if err is nil.
type found struct {
	where string
	err   error
}

// grammar tells of each object which fields it may have and of what kind they are; behind a slash those that it must have, in order. It is told by types, where the program's table is told by fields.
var grammar = map[string]string{
	"machine":  "Comment:text StartAt:name States:states / StartAt States",
	"Pass":     "Comment:text Type:type Next:name End:end InputPath:way OutputPath:way ResultPath:plain Parameters:any Result:any / Next",
	"Task":     "Comment:text Type:type Next:name End:end InputPath:way OutputPath:way ResultPath:plain Parameters:any ResultSelector:any Resource:name Retry:[retrier Catch:[catcher / Next Resource",
	"Choice":   "Comment:text Type:type InputPath:way OutputPath:way Choices:[choice Default:name / Choices",
	"Wait":     "Comment:text Type:type Next:name End:end InputPath:way OutputPath:way Seconds:whole SecondsPath:path Timestamp:moment TimestampPath:path / Next Seconds",
	"Succeed":  "Comment:text Type:type InputPath:way OutputPath:way /",
	"Fail":     "Comment:text Type:type Error:text Cause:text /",
	"Parallel": "Comment:text Type:type Next:name End:end InputPath:way OutputPath:way ResultPath:plain Parameters:any ResultSelector:any Retry:[retrier Catch:[catcher Branches:[machine / Next Branches",
	"Map":      "Comment:text Type:type Next:name End:end InputPath:way OutputPath:way ResultPath:plain Parameters:any ResultSelector:any Retry:[retrier Catch:[catcher Iterator:machine ItemsPath:path MaxConcurrency:whole / Next Iterator",
	"retrier":  "ErrorEquals:[text IntervalSeconds:whole MaxAttempts:whole BackoffRate:number MaxDelaySeconds:whole / ErrorEquals",
	"catcher":  "ErrorEquals:[text Next:name ResultPath:plain / ErrorEquals Next",
}

var kindWords = map[string]int{"text": api.Text, "name": api.Text, "type": api.Text, "path": api.Text, "moment": api.Text, "truth": api.Truth, "end": api.Truth, "number": api.Number, "whole": api.Number}

var plainName = regexp.MustCompile(`^[A-Za-z0-9_-]+$`)

// within is the place of a field.
func within(where, name string) string {
	if plainName.MatchString(name) {
		return where + "." + name
	}
	return where + "['" + strings.NewReplacer(`\`, `\\`, `'`, `\'`).Replace(name) + "']"
}

// has tells whether an object in the one form has a field.
func has(v api.Value, name string) bool {
	return slices.ContainsFunc(v.Fields, func(f api.Field) bool { return f.Name == name })
}

// modelFault is the first fault of a value, in the one form, as something of this kind.
func modelFault(kind string, v api.Value, where string) found {
	if inner, is := strings.CutPrefix(kind, "["); is {
		if v.Kind != api.List {
			return found{where, api.ErrKind}
		}
		for i, e := range v.List {
			if f := modelFault(inner, e, where+"["+strconv.Itoa(i)+"]"); f.err != nil {
				return f
			}
		}
		return found{}
	}
	switch kind {
	case "any":
		return found{}
	case "states":
		return statesModel(v, where)
	case "state":
		return stateModel(v, where)
	case "machine", "retrier", "catcher":
		return fieldsModel(kind, v, where)
	case "choice", "part":
		return ruleModel(kind, v, where)
	}
	return leafModel(kind, v, where)
}

// leafModel is modelFault of what has no parts.
func leafModel(kind string, v api.Value, where string) found {
	if (kind == "way" || kind == "plain") && v.Kind == api.Null {
		return found{}
	}
	want, is := kindWords[kind]
	if !is {
		want = api.Text
	}
	if v.Kind != want {
		return found{where, api.ErrKind}
	}
	ok, err := true, error(nil)
	switch kind {
	case "name":
		ok, err = v.Text != "", api.ErrRange
	case "end":
		ok, err = v.Truth, api.ErrRange
	case "whole":
		floor, fits := dec.Floor(v.Num)
		ok, err = fits && dec.Cmp(dec.Of(floor), v.Num) == 0 && floor >= 0 && floor < 1<<31, api.ErrRange
	case "path", "way", "plain":
		p, wrong := path.Parse(v.Text)
		ok, err = wrong == nil && (kind != "plain" || !p.Context && !strings.Contains(path.Text(p), "[-")), api.ErrPath
	case "moment":
		at, wrong := stamp.Parse(v.Text)
		ok, err = wrong == nil && at.Sec >= -62167219200 && at.Sec < 253402300800, api.ErrTime
	}
	if ok {
		return found{}
	}
	return found{where, err}
}

func statesModel(v api.Value, where string) found {
	if v.Kind != api.Object {
		return found{where, api.ErrKind}
	}
	for _, f := range v.Fields {
		if f.Name == "" {
			return found{where + "['']", api.ErrField}
		}
		if x := modelFault("state", f.Value, within(where, f.Name)); x.err != nil {
			return x
		}
	}
	return found{}
}

func stateModel(v api.Value, where string) found {
	if v.Kind != api.Object {
		return found{where, api.ErrKind}
	}
	if !has(v, "Type") {
		return found{where + ".Type", api.ErrLacks}
	}
	kind, _ := json.Get(v, "Type")
	if kind.Kind != api.Text {
		return found{where + ".Type", api.ErrKind}
	}
	if _, is := grammar[kind.Text]; !is || kind.Text[0] > 'Z' {
		return found{where + ".Type", api.ErrRange}
	}
	return fieldsModel(kind.Text, v, where)
}

// fieldsModel is modelFault of an object of fields: first it is worked out which fields this very object may and must have.
func fieldsModel(kind string, v api.Value, where string) found {
	may, must := map[string]string{}, []string{}
	before, behind, _ := strings.Cut(grammar[kind], "/")
	for _, word := range strings.Fields(before) {
		name, holds, _ := strings.Cut(word, ":")
		may[name] = holds
	}
	must = strings.Fields(behind)
	if _, is := may["End"]; is && has(v, "End") {
		delete(may, "Next")
		must = slices.DeleteFunc(must, func(name string) bool { return name == "Next" })
	}
	if kind == "Wait" {
		four := slices.DeleteFunc([]string{"Seconds", "SecondsPath", "Timestamp", "TimestampPath"}, func(name string) bool { return !has(v, name) })
		for i, name := range four {
			must = slices.DeleteFunc(must, func(name string) bool { return name == "Seconds" })
			if i > 0 {
				delete(may, name)
			}
		}
	}
	return objectModel(v, where, may, must)
}

func ruleModel(kind string, v api.Value, where string) found {
	ops := operands()
	may, must := map[string]string{"Variable": "path"}, []string{}
	if kind == "choice" {
		may["Next"] = "name"
		must = append(must, "Next")
	}
	names := []string{}
	for _, f := range v.Fields {
		if _, is := ops[f.Name]; is {
			names = append(names, f.Name)
		}
	}
	sort.Strings(names)
	if len(names) > 0 {
		may[names[0]] = map[string]string{"rules": "[part", "rule": "part"}[ops[names[0]].kind]
		if may[names[0]] == "" {
			may[names[0]] = ops[names[0]].kind
			must = append(must, "Variable")
		} else {
			delete(may, "Variable")
		}
	}
	f := objectModel(v, where, may, must)
	if f.err == nil && len(names) == 0 {
		return found{where, api.ErrLacks}
	}
	return f
}

// objectModel is the first fault of an object that may and must have these fields.
func objectModel(v api.Value, where string, may map[string]string, must []string) found {
	if v.Kind != api.Object {
		return found{where, api.ErrKind}
	}
	for _, f := range v.Fields {
		holds, is := may[f.Name]
		if !is {
			return found{within(where, f.Name), api.ErrField}
		}
		if x := modelFault(holds, f.Value, within(where, f.Name)); x.err != nil {
			return x
		}
	}
	for _, name := range must {
		if !has(v, name) {
			return found{where + "." + name, api.ErrLacks}
		}
	}
	return found{}
}

// told gathers the fields of an object as texts.
type told map[string]string

func (o told) text(name, s string, is bool) {
	if is {
		o[name] = json.Print(text(s))
	}
}

func (o told) whole(name string, n int, is bool) {
	if is {
		o[name] = dec.Text(dec.Of(int64(n)))
	}
}

func (o told) value(name string, v api.Value, is bool) {
	if is {
		o[name] = json.Print(v)
	}
}

func (o told) way(name string, p api.Path) {
	o.text(name, path.Text(p), p.Set && !p.Nothing)
	if p.Set && p.Nothing {
		o[name] = "null"
	}
}

// String tells the object, by rising names.
func (o told) String() string {
	var out []string
	for name, v := range o {
		out = append(out, json.Print(text(name))+":"+v)
	}
	sort.Slice(out, func(i, j int) bool { // by the names: a quote behind a name must not count
		a, _ := json.Parse(out[i][:nameEnd(out[i])])
		b, _ := json.Parse(out[j][:nameEnd(out[j])])
		return a.Text < b.Text
	})
	return "{" + strings.Join(out, ",") + "}"
}

// nameEnd is where a field's name ends in its text.
func nameEnd(s string) int {
	for i := 1; ; i++ {
		switch s[i] {
		case '\\':
			i++
		case '"':
			return i + 1
		}
	}
}

// row tells a list of texts.
func row[T any](items []T, tell func(T) string) string {
	var out []string
	for _, x := range items {
		out = append(out, tell(x))
	}
	return "[" + strings.Join(out, ",") + "]"
}

func textOf(s string) string { return json.Print(text(s)) }

// modelPrint tells a machine as a text, type by type.
func modelPrint(m api.Machine) string {
	states := told{}
	for _, s := range m.States {
		name := string([]rune(s.Name))
		if _, is := states[name]; !is {
			states[name] = modelState(s)
		}
	}
	return told{"StartAt": textOf(m.Start), "States": states.String()}.String()
}

func modelState(s api.State) string {
	names := []string{"", "Pass", "Task", "Choice", "Wait", "Succeed", "Fail", "Parallel", "Map"}
	if s.Type < 0 || s.Type > 8 {
		s.Type = 0
	}
	o := told{"Type": textOf(names[s.Type])}
	is := func(types ...int) bool { return slices.Contains(types, s.Type) }
	if is(1, 2, 4, 7, 8) {
		o.text("Next", s.Next, s.Next != "")
		o.value("End", truth(true), s.Next == "")
	}
	if is(1, 2, 3, 4, 5, 7, 8) {
		o.way("InputPath", s.Input)
		o.way("OutputPath", s.Output)
	}
	if is(1, 2, 7, 8) {
		o.way("ResultPath", s.Result)
		o.value("Parameters", s.Parameters, s.HasParameters)
	}
	if is(2, 7, 8) {
		o.value("ResultSelector", s.Selector, s.HasSelector)
		if len(s.Retry) > 0 {
			o["Retry"] = row(s.Retry, modelRetrier)
		}
		if len(s.Catch) > 0 {
			o["Catch"] = row(s.Catch, modelCatcher)
		}
	}
	switch s.Type {
	case 1:
		o.value("Result", s.Fixed, s.HasFixed)
	case 2:
		o.text("Resource", s.Resource, true)
	case 3:
		o["Choices"] = row(s.Rules, func(r api.Rule) string { return modelRule(r, true) })
		o.text("Default", s.Default, s.Default != "")
	case 4:
		until, _ := stamp.Text(s.Until)
		o.whole("Seconds", s.Seconds, s.WaitKind == 1)
		o.text("SecondsPath", path.Text(s.AtPath), s.WaitKind == 2)
		o.text("Timestamp", until, s.WaitKind == 3)
		o.text("TimestampPath", path.Text(s.AtPath), s.WaitKind == 4)
	case 6:
		o.text("Error", s.Error, s.Error != "")
		o.text("Cause", s.Cause, s.Cause != "")
	case 7:
		o["Branches"] = row(s.Parts, modelPrint)
	case 8:
		o["Iterator"] = modelPrint(append(slices.Clone(s.Parts), api.Machine{})[0])
		o.way("ItemsPath", s.Items)
		o.whole("MaxConcurrency", s.Most, s.Most != 0)
	}
	return o.String()
}

func modelRetrier(r api.Retrier) string {
	o := told{"ErrorEquals": row(r.Errors, textOf), "BackoffRate": dec.Text(r.Rate)}
	o.whole("IntervalSeconds", r.Interval, true)
	o.whole("MaxAttempts", r.Most, true)
	o.whole("MaxDelaySeconds", r.MaxDelay, r.MaxDelay != 0)
	return o.String()
}

func modelCatcher(c api.Catcher) string {
	o := told{"ErrorEquals": row(c.Errors, textOf), "Next": textOf(c.Next)}
	o.way("ResultPath", c.Result)
	return o.String()
}

func modelRule(r api.Rule, choice bool) string {
	o := told{}
	o.text("Next", r.Next, choice)
	part := func(r api.Rule) string { return modelRule(r, false) }
	for name, x := range operands() {
		switch {
		case x.number != r.Op:
		case x.kind == "rules":
			o[name] = row(r.All, part)
		case x.kind == "rule" && len(r.All) == 0:
			o[name] = "{}"
		case x.kind == "rule":
			o[name] = part(r.All[0])
		case x.kind == "path":
			o.text(name, path.Text(r.At), true)
		default:
			o.value(name, r.With, true)
		}
	}
	o.text("Variable", path.Text(r.Var), r.Op < 1 || r.Op > 3)
	return o.String()
}
