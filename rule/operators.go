package rule

import (
	"cmp"

	"voyage/api"
	"voyage/dec"
	"voyage/stamp"
)

// The operators, by their numbers.
const (
	and = iota + 1
	or
	not
	stringEquals
	stringEqualsPath
	stringLessThan
	stringLessThanPath
	stringGreaterThan
	stringGreaterThanPath
	stringLessThanEquals
	stringLessThanEqualsPath
	stringGreaterThanEquals
	stringGreaterThanEqualsPath
	stringMatches
	numericEquals
	numericEqualsPath
	numericLessThan
	numericLessThanPath
	numericGreaterThan
	numericGreaterThanPath
	numericLessThanEquals
	numericLessThanEqualsPath
	numericGreaterThanEquals
	numericGreaterThanEqualsPath
	booleanEquals
	booleanEqualsPath
	timestampEquals
	timestampEqualsPath
	timestampLessThan
	timestampLessThanPath
	timestampGreaterThan
	timestampGreaterThanPath
	timestampLessThanEquals
	timestampLessThanEqualsPath
	timestampGreaterThanEquals
	timestampGreaterThanEqualsPath
	isNull
	isPresent
	isNumeric
	isString
	isBoolean
	isTimestamp
)

// operator is a row of the table. And, Or, Not and IsPresent have nothing but their names: they speak of no kind.
type operator struct {
	name   string
	is     func(v api.Value) bool            // whether a value is of the kind that the operator speaks of
	holds  func(value, other api.Value) bool // of two of that kind; nil, if there is no other side
	byPath bool                              // the other side stands at a path
}

// operators is the table of all operators that there are, each at its number.
func operators() []operator {
	texts := kind{is: ofKind(api.Text), order: orderOfTexts}
	numbers := kind{is: ofKind(api.Number), order: orderOfNumbers}
	truths := kind{is: ofKind(api.Truth), order: orderOfTruths}
	moments := kind{is: isMoment, order: orderOfMoments}
	return []operator{
		and:                            {name: "And"},
		or:                             {name: "Or"},
		not:                            {name: "Not"},
		stringEquals:                   {name: "StringEquals", is: texts.is, holds: texts.equal},
		stringEqualsPath:               {name: "StringEqualsPath", is: texts.is, holds: texts.equal, byPath: true},
		stringLessThan:                 {name: "StringLessThan", is: texts.is, holds: texts.less},
		stringLessThanPath:             {name: "StringLessThanPath", is: texts.is, holds: texts.less, byPath: true},
		stringGreaterThan:              {name: "StringGreaterThan", is: texts.is, holds: texts.greater},
		stringGreaterThanPath:          {name: "StringGreaterThanPath", is: texts.is, holds: texts.greater, byPath: true},
		stringLessThanEquals:           {name: "StringLessThanEquals", is: texts.is, holds: texts.lessOrEqual},
		stringLessThanEqualsPath:       {name: "StringLessThanEqualsPath", is: texts.is, holds: texts.lessOrEqual, byPath: true},
		stringGreaterThanEquals:        {name: "StringGreaterThanEquals", is: texts.is, holds: texts.greaterOrEqual},
		stringGreaterThanEqualsPath:    {name: "StringGreaterThanEqualsPath", is: texts.is, holds: texts.greaterOrEqual, byPath: true},
		stringMatches:                  {name: "StringMatches", is: texts.is, holds: matches},
		numericEquals:                  {name: "NumericEquals", is: numbers.is, holds: numbers.equal},
		numericEqualsPath:              {name: "NumericEqualsPath", is: numbers.is, holds: numbers.equal, byPath: true},
		numericLessThan:                {name: "NumericLessThan", is: numbers.is, holds: numbers.less},
		numericLessThanPath:            {name: "NumericLessThanPath", is: numbers.is, holds: numbers.less, byPath: true},
		numericGreaterThan:             {name: "NumericGreaterThan", is: numbers.is, holds: numbers.greater},
		numericGreaterThanPath:         {name: "NumericGreaterThanPath", is: numbers.is, holds: numbers.greater, byPath: true},
		numericLessThanEquals:          {name: "NumericLessThanEquals", is: numbers.is, holds: numbers.lessOrEqual},
		numericLessThanEqualsPath:      {name: "NumericLessThanEqualsPath", is: numbers.is, holds: numbers.lessOrEqual, byPath: true},
		numericGreaterThanEquals:       {name: "NumericGreaterThanEquals", is: numbers.is, holds: numbers.greaterOrEqual},
		numericGreaterThanEqualsPath:   {name: "NumericGreaterThanEqualsPath", is: numbers.is, holds: numbers.greaterOrEqual, byPath: true},
		booleanEquals:                  {name: "BooleanEquals", is: truths.is, holds: truths.equal},
		booleanEqualsPath:              {name: "BooleanEqualsPath", is: truths.is, holds: truths.equal, byPath: true},
		timestampEquals:                {name: "TimestampEquals", is: moments.is, holds: moments.equal},
		timestampEqualsPath:            {name: "TimestampEqualsPath", is: moments.is, holds: moments.equal, byPath: true},
		timestampLessThan:              {name: "TimestampLessThan", is: moments.is, holds: moments.less},
		timestampLessThanPath:          {name: "TimestampLessThanPath", is: moments.is, holds: moments.less, byPath: true},
		timestampGreaterThan:           {name: "TimestampGreaterThan", is: moments.is, holds: moments.greater},
		timestampGreaterThanPath:       {name: "TimestampGreaterThanPath", is: moments.is, holds: moments.greater, byPath: true},
		timestampLessThanEquals:        {name: "TimestampLessThanEquals", is: moments.is, holds: moments.lessOrEqual},
		timestampLessThanEqualsPath:    {name: "TimestampLessThanEqualsPath", is: moments.is, holds: moments.lessOrEqual, byPath: true},
		timestampGreaterThanEquals:     {name: "TimestampGreaterThanEquals", is: moments.is, holds: moments.greaterOrEqual},
		timestampGreaterThanEqualsPath: {name: "TimestampGreaterThanEqualsPath", is: moments.is, holds: moments.greaterOrEqual, byPath: true},
		isNull:                         {name: "IsNull", is: ofKind(api.Null)},
		isPresent:                      {name: "IsPresent"},
		isNumeric:                      {name: "IsNumeric", is: numbers.is},
		isString:                       {name: "IsString", is: texts.is},
		isBoolean:                      {name: "IsBoolean", is: truths.is},
		isTimestamp:                    {name: "IsTimestamp", is: moments.is},
	}
}

// kind is what comparisons ask of the values of a kind.
type kind struct {
	is    func(v api.Value) bool
	order func(value, other api.Value) int // below 0, 0, above 0: the value is less, equal, greater
}

func (k kind) equal(value, other api.Value) bool          { return k.order(value, other) == 0 }
func (k kind) less(value, other api.Value) bool           { return k.order(value, other) < 0 }
func (k kind) greater(value, other api.Value) bool        { return k.order(value, other) > 0 }
func (k kind) lessOrEqual(value, other api.Value) bool    { return k.order(value, other) <= 0 }
func (k kind) greaterOrEqual(value, other api.Value) bool { return k.order(value, other) >= 0 }

// ofKind gives what tells whether a value is of this Kind.
func ofKind(kind int) func(v api.Value) bool {
	return func(v api.Value) bool { return v.Kind == kind }
}

func isMoment(v api.Value) bool {
	_, err := stamp.Parse(v.Text)
	return v.Kind == api.Text && err == nil
}

func orderOfTexts(value, other api.Value) int {
	return cmp.Compare(value.Text, other.Text)
}

func orderOfNumbers(value, other api.Value) int {
	return dec.Cmp(value.Num, other.Num)
}

// orderOfTruths is asked for nothing but whether they are alike.
func orderOfTruths(value, other api.Value) int {
	if value.Truth == other.Truth {
		return 0
	}
	return 1
}

func orderOfMoments(value, other api.Value) int {
	v, _ := stamp.Parse(value.Text) // both are moments: that was asked ahead
	o, _ := stamp.Parse(other.Text)
	return stamp.Cmp(v, o)
}

// matches tells whether the other side, a pattern, speaks of a text.
func matches(value, other api.Value) bool {
	return Match(other.Text, value.Text)
}
