package call_test

import (
	"strings"
	"testing"

	"voyage/api"
)

// P5.2
func TestFaults(t *testing.T) {
	for _, x := range []struct {
		s    string
		at   int
		want error
	}{
		{"States.Sum(1)", 0, api.ErrCall}, {"States.Array(1", 14, api.ErrDue}, {"States.Array(1,)", 15, api.ErrDue}, {"States.Array('{')", 14, api.ErrText}, {"States.Array($.a[01])", 18, api.ErrPath}, {"States.Format('{}')", 0, api.ErrCall}, {"States.Array() ", 14, api.ErrDue}, {"Array()", 0, api.ErrDue},
		{"", 0, api.ErrDue}, {"S", 0, api.ErrDue}, {"States", 0, api.ErrDue}, {"states.Array()", 0, api.ErrDue}, {" States.Array()", 0, api.ErrDue}, {"$.a", 0, api.ErrDue}, {"'x'", 0, api.ErrDue}, {"1", 0, api.ErrDue}, {"\xff", 0, api.ErrDue}, {"(", 0, api.ErrDue},
		{"States.", 7, api.ErrDue}, {"States.(", 7, api.ErrDue}, {"States. Array()", 7, api.ErrDue}, {"States.1()", 7, api.ErrDue}, {"States._", 7, api.ErrDue}, {"States.\xc3\xa9()", 7, api.ErrDue}, {"States.[", 7, api.ErrDue}, {"States.@", 7, api.ErrDue}, {"States.`", 7, api.ErrDue}, {"States.{", 7, api.ErrDue},
		{"States.Sum", 0, api.ErrCall}, {"States.array()", 0, api.ErrCall}, {"States.Arrays()", 0, api.ErrCall}, {"States.Arra", 0, api.ErrCall}, {"States.Sum!", 0, api.ErrCall}, {"States.States.Array()", 0, api.ErrCall}, {"States.arrayX", 0, api.ErrCall}, {"States.FORMAT('')", 0, api.ErrCall}, {"States.z\xff", 0, api.ErrCall}, {"States.Zz(", 0, api.ErrCall},
		{"States.Array", 12, api.ErrDue}, {"States.Array ()", 12, api.ErrDue}, {"States.Array1()", 12, api.ErrDue}, {"States.Array)", 12, api.ErrDue}, {"States.Array.", 12, api.ErrDue}, {"States.Array\xff", 12, api.ErrDue},
		{"States.Array(", 13, api.ErrDue}, {"States.Array( ", 14, api.ErrDue}, {"States.Array(,", 13, api.ErrDue}, {"States.Array( ,1)", 14, api.ErrDue}, {"States.Array(1 2)", 15, api.ErrDue}, {"States.Array(1,", 15, api.ErrDue}, {"States.Array(1, ", 16, api.ErrDue}, {"States.Array(1,,2)", 15, api.ErrDue}, {"States.Array(1;2)", 14, api.ErrDue}, {"States.Array('a''b')", 16, api.ErrDue}, {"States.Array((1))", 13, api.ErrDue}, {"States.Array([])", 13, api.ErrDue}, {"States.Array(\"a\")", 13, api.ErrDue}, {"States.Array(+1)", 13, api.ErrDue}, {"States.Array(.5)", 13, api.ErrDue}, {"States.Array(e1)", 13, api.ErrDue}, {"States.Array({})", 13, api.ErrDue}, {"States.Array(\x00)", 13, api.ErrDue}, {"States.Array(\v1)", 13, api.ErrDue}, {"States.Array(\f)", 13, api.ErrDue}, {"States.Array(\u00a01)", 13, api.ErrDue}, {"States.Array(x)", 13, api.ErrDue}, {"States.Array(])", 13, api.ErrDue},
		{"States.Array())", 14, api.ErrDue}, {"States.Array(),", 14, api.ErrDue}, {"States.Array()\n", 14, api.ErrDue}, {"States.Array()States.Array()", 14, api.ErrDue}, {"States.Array()\x00", 14, api.ErrDue},
		{"States.Array(nul)", 13, api.ErrDue}, {"States.Array(n", 13, api.ErrDue}, {"States.Array(Null)", 13, api.ErrDue}, {"States.Array(nullx)", 17, api.ErrDue}, {"States.Array(null null)", 18, api.ErrDue}, {"States.Array(tru", 13, api.ErrDue}, {"States.Array(truefalse)", 17, api.ErrDue}, {"States.Array(fals)", 13, api.ErrDue}, {"States.Array(false1)", 18, api.ErrDue}, {"States.Array(null", 17, api.ErrDue}, {"States.Array(1,t)", 15, api.ErrDue},
		{"States.Array(S", 13, api.ErrDue}, {"States.Array(States", 13, api.ErrDue}, {"States.Array(States)", 13, api.ErrDue}, {"States.Array(State.Array())", 13, api.ErrDue}, {"States.Array(States.)", 20, api.ErrDue}, {"States.Array(States.Array)", 25, api.ErrDue}, {"States.Array(States.Array()", 27, api.ErrDue}, {"States.Array(States.Sum())", 13, api.ErrCall}, {"States.Array(1, States.ArrayLength())", 16, api.ErrCall}, {"States.Array(States.Array() States.Array())", 28, api.ErrDue}, {"States.Array(States. Array())", 20, api.ErrDue},
		{"States.Array('", 14, api.ErrText}, {"States.Array('ab", 16, api.ErrText}, {"States.Array('}')", 14, api.ErrText}, {"States.Array('a{b}')", 15, api.ErrText}, {"States.Array('{}}')", 16, api.ErrText}, {"States.Array('{{}}')", 14, api.ErrText}, {"States.Array('{\\}')", 14, api.ErrText}, {"States.Array('\\{}')", 16, api.ErrText}, {"States.Array('\\n')", 14, api.ErrText}, {"States.Array('a\\", 15, api.ErrText}, {"States.Array('\\", 14, api.ErrText}, {"States.Array('{", 14, api.ErrText}, {"States.Array('\\')", 17, api.ErrText}, {"States.Array('\\\\\\')", 19, api.ErrText}, {"States.Array('\\\"')", 14, api.ErrText}, {"States.Array('a', '{ }')", 19, api.ErrText}, {"States.Format('{0}', 1)", 15, api.ErrText}, {"States.Array('x)", 16, api.ErrText}, {"States.Array('\\\xff')", 14, api.ErrText},
		{"States.Array(01)", 13, api.ErrNumber}, {"States.Array(-)", 13, api.ErrNumber}, {"States.Array(1.)", 13, api.ErrNumber}, {"States.Array(1e)", 13, api.ErrNumber}, {"States.Array(1-2)", 13, api.ErrNumber}, {"States.Array(--1)", 13, api.ErrNumber}, {"States.Array(1, 2.5.)", 16, api.ErrNumber}, {"States.Array(1e10000)", 13, api.ErrExponent}, {"States.Array(1e-10000)", 13, api.ErrExponent}, {"States.Array(10e9999", 13, api.ErrExponent}, {"States.Array(1x)", 14, api.ErrDue}, {"States.Array(1E5_)", 16, api.ErrDue}, {"States.Array(-", 13, api.ErrNumber}, {"States.Array(0x1)", 14, api.ErrDue}, {"States.Array(1e5e)", 13, api.ErrNumber},
		{"States.Array($x)", 14, api.ErrPath}, {"States.Array($.)", 15, api.ErrPath}, {"States.Array($.", 15, api.ErrPath}, {"States.Array($$$)", 15, api.ErrPath}, {"States.Array($. a)", 15, api.ErrPath}, {"States.Array($['a)", 18, api.ErrPath}, {"States.Array($['a\\)", 18, api.ErrPath}, {"States.Array($['a'b)", 18, api.ErrPath}, {"States.Array($['a' ])", 18, api.ErrPath}, {"States.Array($[ 0])", 15, api.ErrPath}, {"States.Array($[0,1])", 16, api.ErrPath}, {"States.Array($.a.b[-0])", 20, api.ErrPath}, {"States.Array(1, $.a$)", 19, api.ErrPath}, {"States.Array($", 14, api.ErrDue}, {"States.Array($.a", 16, api.ErrDue}, {"States.Array($.a $.b)", 17, api.ErrDue}, {"States.Array($.a(1))", 16, api.ErrPath}, {"States.Array($.a\xff)", 16, api.ErrPath}, {"States.Array($['a'],$['b)", 25, api.ErrPath}, {"States.Array($.a['\\', 1)", 24, api.ErrPath}, {"States.Array($.a[['x y'])", 17, api.ErrPath},
		{"States.Format()", 0, api.ErrCall}, {"States.Format(1)", 0, api.ErrCall}, {"States.Format($.a)", 0, api.ErrCall}, {"States.Format(States.Format('a'))", 0, api.ErrCall}, {"States.Format(null)", 0, api.ErrCall}, {"States.Format('a', 1)", 0, api.ErrCall}, {"States.Format('{}{}', 1)", 0, api.ErrCall}, {"States.Format('{}', 1, 2)", 0, api.ErrCall}, {"States.Format('\\{\\}', 1)", 0, api.ErrCall}, {"States.Format($.a, 1)", 0, api.ErrCall},
		{"States.ArrayPartition()", 0, api.ErrCall}, {"States.ArrayPartition(1)", 0, api.ErrCall}, {"States.ArrayPartition(1,2,3)", 0, api.ErrCall}, {"States.ArrayContains(1)", 0, api.ErrCall}, {"States.ArrayContains(1,2,3)", 0, api.ErrCall}, {"States.ArrayGetItem(1)", 0, api.ErrCall}, {"States.ArrayGetItem(1,2,3)", 0, api.ErrCall}, {"States.ArrayLength()", 0, api.ErrCall}, {"States.ArrayLength(1,2)", 0, api.ErrCall}, {"States.ArrayUnique()", 0, api.ErrCall}, {"States.ArrayUnique(1,2)", 0, api.ErrCall}, {"States.StringSplit('a')", 0, api.ErrCall}, {"States.StringSplit('a','b','c')", 0, api.ErrCall}, {"States.StringToJson()", 0, api.ErrCall}, {"States.StringToJson('1','2')", 0, api.ErrCall}, {"States.JsonToString()", 0, api.ErrCall}, {"States.JsonToString(1,2)", 0, api.ErrCall}, {"States.JsonMerge($)", 0, api.ErrCall}, {"States.JsonMerge($,$,$)", 0, api.ErrCall}, {"States.MathAdd(1)", 0, api.ErrCall}, {"States.MathAdd(1,2,3)", 0, api.ErrCall},
	} {
		refuses(t, x.s, x.at, x.want)
	}
}

// P5.2: of several things that are wrong the first from the left; how many arguments there are is asked once their bracket has been read.
func TestFirstFault(t *testing.T) {
	for _, x := range []struct {
		s    string
		at   int
		want error
	}{
		{"States.Sum('{'", 0, api.ErrCall}, {"States.Array('{', 01)", 14, api.ErrText}, {"States.Array(01, '{')", 13, api.ErrNumber}, {"States.Array(01, States.Sum())", 13, api.ErrNumber}, {"States.Array(States.Sum(), 01)", 13, api.ErrCall},
		{"States.ArrayLength(1, 2, '{')", 26, api.ErrText}, {"States.ArrayLength(1, 2", 23, api.ErrDue}, {"States.ArrayLength() ", 0, api.ErrCall}, {"States.ArrayLength(1,2)x", 0, api.ErrCall}, {"States.Format(1, 2", 18, api.ErrDue}, {"States.Format(1, 2)x", 0, api.ErrCall}, {"States.Format(1, States.Sum())", 17, api.ErrCall},
		{"States.Array(States.ArrayLength(), x)", 13, api.ErrCall}, {"States.Array(States.ArrayLength(x), 01)", 32, api.ErrDue}, {"States.ArrayLength(States.ArrayLength())", 19, api.ErrCall}, {"States.ArrayLength(States.ArrayLength(1), 2)", 0, api.ErrCall},
		{"States.Array($.z, $.)", 20, api.ErrPath}, {"States.ArrayLength('x', $.z)", 0, api.ErrCall},
	} {
		refuses(t, x.s, x.at, x.want)
	}
}

// nested is so many calls, one within the other.
func nested(inner string, times int) string {
	return strings.Repeat("States.Array(", times) + inner + strings.Repeat(")", times)
}

// P5.2: how deep calls may stand in calls.
func TestDeepCalls(t *testing.T) {
	const size = len("States.Array(")
	tells(t, nested("1", 64), api.Value{}, nest(number("1", 0), 64), nil)
	tells(t, nested("", 64), api.Value{}, nest(api.Value{Kind: api.List}, 63), nil)
	tells(t, nested("States.ArrayLength($)", 63), list(), nest(number("", 0), 63), nil)
	tells(t, nested("1,States.Array(),States.Array()", 63), api.Value{}, nest(list(number("1", 0), list(), list()), 62), nil)
	refuses(t, nested("", 65), 64*size, api.ErrDeep)
	refuses(t, nested("1", 100000), 64*size, api.ErrDeep)
	refuses(t, nested(" 1 , States.Array()", 64), 64*size+5, api.ErrDeep)
	refuses(t, nested("States.", 64), 64*size, api.ErrDeep)
	refuses(t, nested("States.(", 64), 64*size, api.ErrDeep)
	refuses(t, nested("States.Sum()", 64), 64*size, api.ErrDeep)
	refuses(t, nested("States.Sum()", 63), 63*size, api.ErrCall)
	refuses(t, nested("State", 64), 64*size, api.ErrDue)
	refuses(t, nested("'{', States.Array()", 64), 64*size+1, api.ErrText)
	refuses(t, nested("States.Array(States.Array(", 63), 64*size, api.ErrDeep)
	row := []api.Value{number("1", 0)}
	for range 200 {
		row = append(row, list())
	}
	for deep := 1; deep < 64; deep++ { // calls that stand beside each other aren't within each other
		tells(t, nested("1"+strings.Repeat(",States.Array()", 200), deep), api.Value{}, nest(list(row...), deep-1), nil)
	}
	tells(t, nested(nested("", 62)+","+nested("", 61)+","+nested("", 62), 2), api.Value{}, list(list(nest(list(), 61), nest(list(), 60), nest(list(), 61))), nil)
	beside := "States.Array(" + nested("", 63) + ","
	refuses(t, beside+nested("", 64)+")", len(beside)+63*size, api.ErrDeep)
}

// P5.2: a call that is cut off anywhere is none.
func TestCutOff(t *testing.T) {
	const whole = "States.Format( '{}\\'{}{}' , $['a\\'b,'].c[-1],States.Array(null, -1.5e3,\ttrue), States.JsonToString($$) )"
	for i := range len(whole) {
		if _, at, err := evalFault(whole[:i]); err == nil || at > i {
			t.Errorf("%q: %v at %d", whole[:i], err, at)
		}
	}
	if _, _, err := evalFault(whole); err != nil {
		t.Errorf("%q: %v", whole, err)
	}
}
