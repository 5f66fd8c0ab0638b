package def

import "voyage/api"

// types is a set of types, each the bit of its number.
type types uint

const (
	none      types = 1 << noType
	passes    types = 1 << api.Pass
	tasks     types = 1 << api.Task
	choices   types = 1 << api.Choice
	waits     types = 1 << api.Wait
	succeeds  types = 1 << api.Succeed
	fails     types = 1 << api.Fail
	parallels types = 1 << api.Parallel
	maps      types = 1 << api.Map

	tried = tasks | parallels | maps  // what may fail and be tried again
	made  = passes | tried            // what makes a result
	goOn  = made | waits              // what has a state behind it, or is an end
	piped = goOn | choices | succeeds // what has an input and an output
	every = piped | fails
)

// row is a row of the table: which fields the states of some types have.
type row struct {
	of     types
	fields []field[state]
}

// table tells the fields of all types, in the order of the document.
func table() []row {
	return []row{
		{every | none, []field[state]{{typeField, "", (*state).readType, (*state).tellType}}},
		{every, []field[state]{comment[state]()}},
		{goOn, []field[state]{
			{"Next", "Next", (*state).readNext, (*state).tellNext},
			{"End", "Next", (*state).readEnd, (*state).tellEnd},
		}},
		{piped, []field[state]{
			{"InputPath", "", (*state).readInput, (*state).tellInput},
			{"OutputPath", "", (*state).readOutput, (*state).tellOutput},
		}},
		{made, []field[state]{
			{"ResultPath", "", (*state).readResult, (*state).tellResult},
			{"Parameters", "", (*state).readParameters, (*state).tellParameters},
		}},
		{tried, []field[state]{{"ResultSelector", "", (*state).readSelector, (*state).tellSelector}}},
		{passes, []field[state]{{"Result", "", (*state).readFixed, (*state).tellFixed}}},
		{tasks, []field[state]{{"Resource", "Resource", (*state).readResource, (*state).tellResource}}},
		{tried, []field[state]{
			{"Retry", "", (*state).readRetry, (*state).tellRetry},
			{"Catch", "", (*state).readCatch, (*state).tellCatch},
		}},
		{choices, []field[state]{
			{"Choices", "Choices", (*state).readRules, (*state).tellRules},
			{"Default", "", (*state).readDefault, (*state).tellDefault},
		}},
		{waits, []field[state]{
			{"Seconds", "Seconds", (*state).readSeconds, (*state).tellSeconds},
			{"SecondsPath", "Seconds", (*state).readSecondsPath, (*state).tellSecondsPath},
			{"Timestamp", "Seconds", (*state).readTimestamp, (*state).tellTimestamp},
			{"TimestampPath", "Seconds", (*state).readTimestampPath, (*state).tellTimestampPath},
		}},
		{fails, []field[state]{
			{"Error", "", (*state).readError, (*state).tellError},
			{"Cause", "", (*state).readCause, (*state).tellCause},
		}},
		{parallels, []field[state]{{"Branches", "Branches", (*state).readBranches, (*state).tellBranches}}},
		{maps, []field[state]{
			{"Iterator", "Iterator", (*state).readIterator, (*state).tellIterator},
			{"ItemsPath", "", (*state).readItems, (*state).tellItems},
			{"MaxConcurrency", "", (*state).readMost, (*state).tellMost},
		}},
	}
}

// stateFields tells the fields of a type.
func stateFields(number int) []field[state] {
	var has []field[state]
	for _, r := range table() {
		if r.of&(1<<knownType(number)) != 0 {
			has = append(has, r.fields...)
		}
	}
	return has
}
