package def

import (
	"slices"

	"voyage/api"
)

// rule is a rule that is read or told.
type rule api.Rule

const (
	noOperator = 0 // any Op that is none of the list counts as this one
	lastOfAll  = 3 // And, Or and Not, which are of other rules, stand up to here
)

// operators tells the fields that are operators, each at its number.
func operators() []field[rule] {
	return []field[rule]{
		{},
		{"And", "", (*rule).readAll, (*rule).tellAll},
		{"Or", "", (*rule).readAll, (*rule).tellAll},
		{"Not", "", (*rule).readOne, (*rule).tellOne},
		{"StringEquals", "", (*rule).readText, (*rule).tellWith},
		{"StringEqualsPath", "", (*rule).readPath, (*rule).tellPath},
		{"StringLessThan", "", (*rule).readText, (*rule).tellWith},
		{"StringLessThanPath", "", (*rule).readPath, (*rule).tellPath},
		{"StringGreaterThan", "", (*rule).readText, (*rule).tellWith},
		{"StringGreaterThanPath", "", (*rule).readPath, (*rule).tellPath},
		{"StringLessThanEquals", "", (*rule).readText, (*rule).tellWith},
		{"StringLessThanEqualsPath", "", (*rule).readPath, (*rule).tellPath},
		{"StringGreaterThanEquals", "", (*rule).readText, (*rule).tellWith},
		{"StringGreaterThanEqualsPath", "", (*rule).readPath, (*rule).tellPath},
		{"StringMatches", "", (*rule).readText, (*rule).tellWith},
		{"NumericEquals", "", (*rule).readNumber, (*rule).tellWith},
		{"NumericEqualsPath", "", (*rule).readPath, (*rule).tellPath},
		{"NumericLessThan", "", (*rule).readNumber, (*rule).tellWith},
		{"NumericLessThanPath", "", (*rule).readPath, (*rule).tellPath},
		{"NumericGreaterThan", "", (*rule).readNumber, (*rule).tellWith},
		{"NumericGreaterThanPath", "", (*rule).readPath, (*rule).tellPath},
		{"NumericLessThanEquals", "", (*rule).readNumber, (*rule).tellWith},
		{"NumericLessThanEqualsPath", "", (*rule).readPath, (*rule).tellPath},
		{"NumericGreaterThanEquals", "", (*rule).readNumber, (*rule).tellWith},
		{"NumericGreaterThanEqualsPath", "", (*rule).readPath, (*rule).tellPath},
		{"BooleanEquals", "", (*rule).readTruth, (*rule).tellWith},
		{"BooleanEqualsPath", "", (*rule).readPath, (*rule).tellPath},
		{"TimestampEquals", "", (*rule).readMoment, (*rule).tellWith},
		{"TimestampEqualsPath", "", (*rule).readPath, (*rule).tellPath},
		{"TimestampLessThan", "", (*rule).readMoment, (*rule).tellWith},
		{"TimestampLessThanPath", "", (*rule).readPath, (*rule).tellPath},
		{"TimestampGreaterThan", "", (*rule).readMoment, (*rule).tellWith},
		{"TimestampGreaterThanPath", "", (*rule).readPath, (*rule).tellPath},
		{"TimestampLessThanEquals", "", (*rule).readMoment, (*rule).tellWith},
		{"TimestampLessThanEqualsPath", "", (*rule).readPath, (*rule).tellPath},
		{"TimestampGreaterThanEquals", "", (*rule).readMoment, (*rule).tellWith},
		{"TimestampGreaterThanEqualsPath", "", (*rule).readPath, (*rule).tellPath},
		{"IsNull", "", (*rule).readTruth, (*rule).tellWith},
		{"IsPresent", "", (*rule).readTruth, (*rule).tellWith},
		{"IsNumeric", "", (*rule).readTruth, (*rule).tellWith},
		{"IsString", "", (*rule).readTruth, (*rule).tellWith},
		{"IsBoolean", "", (*rule).readTruth, (*rule).tellWith},
		{"IsTimestamp", "", (*rule).readTruth, (*rule).tellWith},
	}
}

// operatorOf gives the number of the first field that is an operator.
func operatorOf(fields []api.Field) int {
	table := operators()
	for _, f := range fields {
		number := slices.IndexFunc(table, func(o field[rule]) bool { return o.name == f.Name })
		if number > noOperator { // a field without a name has that of no operator
			return number
		}
	}
	return noOperator
}

// ruleFields tells the fields of a rule with this operator. No other operator is among them: a second one may not be there.
func ruleFields(number int, ofChoices bool) []field[rule] {
	var has []field[rule]
	if ofChoices {
		has = append(has, field[rule]{"Next", "Next", (*rule).readNext, (*rule).tellNext})
	}
	variable := field[rule]{"Variable", "Variable", (*rule).readVariable, (*rule).tellVariable}
	table := operators()
	if number <= noOperator || number >= len(table) {
		variable.wants = "" // it is the operator that is missing
		return append(has, variable)
	}
	has = append(has, table[number])
	if number <= lastOfAll {
		return has
	}
	return append(has, variable)
}

// readChoice reads a rule of Choices.
func readChoice(n *node) api.Rule { return readRule(n, true) }

// readPart reads a rule within another one.
func readPart(n *node) api.Rule { return readRule(n, false) }

func readRule(n *node, ofChoices bool) api.Rule {
	r := rule{Op: operatorOf(n.value.Fields)}
	readFields(&r, n, ruleFields(r.Op, ofChoices))
	n.check(r.Op != noOperator, api.ErrLacks)
	return api.Rule(r)
}

// tellChoice tells a rule of Choices.
func tellChoice(r *api.Rule) api.Value { return tellFields((*rule)(r), ruleFields(r.Op, true)) }

// tellPart tells a rule within another one.
func tellPart(r *api.Rule) api.Value { return tellFields((*rule)(r), ruleFields(r.Op, false)) }

func (r *rule) readNext(n *node)            { r.Next = n.name() }
func (r *rule) tellNext() (api.Value, bool) { return tellText(r.Next), true }

func (r *rule) readVariable(n *node)            { r.Var = n.path() }
func (r *rule) tellVariable() (api.Value, bool) { return tellPath(r.Var), true }

func (r *rule) readAll(n *node)            { r.All = list(n, readPart) }
func (r *rule) tellAll() (api.Value, bool) { return tellList(r.All, tellPart), true }

func (r *rule) readOne(n *node) { r.All = []api.Rule{readPart(n)} }

func (r *rule) tellOne() (api.Value, bool) {
	if len(r.All) == 0 {
		return api.Value{Kind: api.Object}, true
	}
	return tellPart(&r.All[0]), true
}

func (r *rule) readText(n *node) {
	n.need(api.Text)
	r.With = n.value
}

func (r *rule) readNumber(n *node) {
	n.need(api.Number)
	r.With = n.value
}

func (r *rule) readTruth(n *node) {
	n.need(api.Truth)
	r.With = n.value
}

// readMoment keeps the moment's text: another one may tell the same moment.
func (r *rule) readMoment(n *node) {
	n.moment()
	r.With = n.value
}

func (r *rule) tellWith() (api.Value, bool) { return r.With, true }

func (r *rule) readPath(n *node)            { r.At = n.path() }
func (r *rule) tellPath() (api.Value, bool) { return tellPath(r.At), true }
