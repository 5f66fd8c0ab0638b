package json_test

import (
	"fmt"
	"strings"
	"testing"

	"voyage/api"
	"voyage/json"
)

// reads: s tells v.
func reads(t *testing.T, s string, v api.Value) {
	t.Helper()
	if got, err := json.Parse(s); err != nil || !identical(got, v) {
		t.Errorf("Parse(%.80q): %.200v, %v", s, got, err)
	}
}

// refuses: s is refused by that error itself, with its place; nothing else is answered.
func refuses(t *testing.T, s string, at int, want error) {
	t.Helper()
	got, err := json.Parse(s)
	f, ok := err.(*api.Fault)
	if !ok || f.At != at || f.Err != want || f.Where != "" || !identical(got, api.Value{}) {
		t.Errorf("Parse(%.80q): %.200v, %v, want %d: %v", s, got, err, at, want)
	}
}

func times(n int, s string) string { return strings.Repeat(s, n) }

// P2.4, P2.5
func TestParse(t *testing.T) {
	one, two := number("1", 0), number("2", 0)
	for _, x := range []struct {
		s string
		v api.Value
	}{
		{` {"b" : [1.50, -0], "a":"\u00e9\/"}`, object(field("a", text("é/")), field("b", list(number("15", -1), number("", 0))))},
		{"null", null()}, {"true", truth(true)}, {"false", truth(false)}, {" \t\n\rnull\r\n\t ", null()}, {"\"\"", text("")}, {`"null"`, text("null")},
		{"0", number("", 0)}, {"-0", number("", 0)}, {"0e99999", number("", 0)}, {"-12.50e1", below("125", 0)}, {"1E+2", number("1", 2)}, {"1e9999", number("1", 9999)}, {"-1e-9999", below("1", -9999)}, {"0.001e10002", number("1", 9999)}, {"1" + times(9999, "0"), number("1", 9999)}, {" 7 ", number("7", 0)},
		{"[]", list()}, {"[ ]", list()}, {" [ \t\r\n ] ", list()}, {"[1]", list(one)}, {"[1,2]", list(one, two)}, {"[ 1 , 2 ]", list(one, two)}, {"[[],[[]],{}]", list(list(), list(list()), object())}, {"[null,true,false,\"\"]", list(null(), truth(true), truth(false), text(""))}, {"[1,1,1]", list(one, one, one)},
		{"{}", object()}, {"{ }\n", object()}, {`{"":{}}`, object(field("", object()))}, {`{"a":1}`, object(field("a", one))}, {"\r{\n\"a\"\t: 1\n}\r", object(field("a", one))}, {`{"b":1,"a":2}`, object(field("a", two), field("b", one))}, {`{"a":{"a":{"a":1}},"b":{"a":2}}`, object(field("a", object(field("a", object(field("a", one))))), field("b", object(field("a", two))))},
		{`[{"a":1},{"a":2}]`, list(object(field("a", one)), object(field("a", two)))}, {`{"a":1,"A":2,"a ":1,"":2}`, object(field("", two), field("A", two), field("a", one), field("a ", one))},
		{`{"\uffff":1,"\ud800\udc00":2,"z":1,"\u0080":2}`, object(field("z", one), field("\u0080", two), field("\uffff", one), field("\U00010000", two))},
	} {
		reads(t, x.s, x.v)
	}
}

// P2.5: what can't stand where it stands, and texts that end too early.
func TestParseDue(t *testing.T) {
	for _, x := range []struct {
		s  string
		at int
	}{
		{"", 0}, {"[1,]", 3}, {`{"a":1,}`, 7}, {"[1 2]", 3}, {"nul", 0}, {"1 x", 2}, {"{a", 1}, {".5", 0}, {"nul!", 0},
		{" ", 1}, {" \t\r\n", 4}, {"n", 0}, {"t", 0}, {"tru", 0}, {"fals", 0}, {"True", 0}, {"NULL", 0}, {"nULL", 0}, {" nul", 1}, {"[nul", 1}, {"[1,fals]", 3}, {`{"a":tru`, 5}, {`{"a":nul}`, 5}, {"nulll", 4}, {"nullnull", 4}, {"truefalse", 4}, {"null null", 5}, {"falsee", 5},
		{"+1", 0}, {"e1", 0}, {"E", 0}, {"[+1]", 1}, {"Infinity", 0}, {"NaN", 0}, {"'a'", 0}, {"a", 0}, {"\\", 0}, {"/", 0}, {":", 0}, {"//1", 0}, {"1//", 1}, {"\x00", 0}, {"1\x00", 1}, {"\xff", 0}, {"1\xff", 1}, {"[\xff]", 1}, {"[1\xc3\xa9]", 2}, {"é", 0}, {"\ufeff1", 0}, {"\ufffd", 0},
		{"\x0b1", 0}, {"\x0c1", 0}, {"\xa01", 0}, {"\u00a01", 0}, {"1\u2028", 1}, {"\x1f1", 0}, {"1\x0b", 1}, {"[\x0c]", 1},
		{"[", 1}, {"[ ", 2}, {"[1", 2}, {"[1 ", 3}, {"[1,", 3}, {"[1, ", 4}, {"[1,2", 4}, {"[[", 2}, {"[[]", 3}, {"]", 0}, {"}", 0}, {",", 0}, {"[,", 1}, {"[,1]", 1}, {"[1,,2]", 3}, {"[1;2]", 2}, {"[}", 1}, {"[1}", 2}, {"[1]]", 3}, {"[1]1", 3}, {"[]]", 2}, {"[1:2]", 2}, {"[1\"a\"]", 2}, {"[\"a\"1]", 4}, {"[\"a\":1]", 4}, {"[][]", 2}, {"[[]{}]", 3}, {"[null\"a\"]", 5}, {"[,]", 1},
		{"{", 1}, {"{ ", 2}, {"{,}", 1}, {"{]", 1}, {"{1:2}", 1}, {"{null:1}", 1}, {"{[]:1}", 1}, {"{{}:1}", 1}, {"{:1}", 1}, {"{'a':1}", 1}, {`{"a"`, 4}, {`{"a" `, 5}, {`{"a"}`, 4}, {`{"a",`, 4}, {`{"a" 1}`, 5}, {`{"a":`, 5}, {`{"a": `, 6}, {`{"a":}`, 5}, {`{"a":,`, 5}, {`{"a"::1}`, 5}, {`{"a":1`, 6}, {`{"a":1 `, 7}, {`{"a":1,`, 7}, {`{"a":1, `, 8}, {`{"a":1]`, 6}, {`{"a":1,,`, 7}, {`{"a":1 "b":2}`, 7}, {`{"a":1,1`, 7}, {`{"a":1}}`, 7}, {`{"a":1}1`, 7}, {`{"a":]`, 5}, {`{"a":1,"b"}`, 10}, {`{"a":1:`, 6}, {`{"a"=1}`, 4}, {`{"a""b"`, 4}, {`{"a":{}`, 7}, {`{,`, 1},
		{`"a""b"`, 3}, {`"a" "b"`, 4}, {`"a"x`, 3}, {`"a":1`, 3}, {`""]`, 2}, {`1,2`, 1}, {`1 2`, 2}, {`1"`, 1}, {`1x`, 1}, {`1n`, 1}, {`1[`, 1}, {"1_0", 1}, {"0x1", 1},
	} {
		refuses(t, x.s, x.at, api.ErrDue)
	}
}

// P2.5: numbers take all bytes that may be of one, ahead of anything else.
func TestParseNumbers(t *testing.T) {
	for _, x := range []struct {
		s  string
		at int
	}{
		{"01", 0}, {"[-]", 1}, {"-", 0}, {"-x", 0}, {"--1", 0}, {"1.", 0}, {"1.x", 0}, {"1e", 0}, {"1e+", 0}, {"1e]", 0}, {"1-", 0}, {"1-1", 0}, {"1+1", 0}, {"1.5.5", 0}, {"00", 0}, {"-01", 0}, {"-.5", 0}, {"1E", 0}, {"1ee1", 0}, {"-e", 0}, {"0-", 0}, {"1.e1", 0}, {"1e1.5", 0}, {" 01", 1}, {"[1,01]", 3}, {"[1,2.]", 3}, {`{"a":-}`, 5}, {`{"a":1.,}`, 5}, {"[01,", 1}, {"[01x", 1}, {"01x", 0}, {"1e1-]", 0}, {"01e10000", 0}, {"9-e", 0}, {"-+1", 0}, {"1.\xff", 0}, {"0e", 0},
	} {
		refuses(t, x.s, x.at, api.ErrNumber)
	}
	for _, x := range []struct {
		s  string
		at int
	}{
		{"1e10000", 0}, {"10e9999", 0}, {"-1e10000", 0}, {"1e-10000", 0}, {"0.1e-9999", 0}, {"1000e9998", 0}, {" 1e10000", 1}, {"[1e10000", 1}, {"[1,-1e-10000]", 3}, {`{"a":1e10000}`, 5}, {"1e10000x", 0}, {"1e10000 x", 0}, {"1" + times(10000, "0"), 0}, {"1e99999999999999999999", 0},
	} {
		refuses(t, x.s, x.at, api.ErrExponent)
	}
}

// P2.5: MaxDepth and one more, of lists, of objects, of both; how many are open counts, not how many there are.
func TestParseDeep(t *testing.T) {
	const m = api.MaxDepth
	reads(t, times(m, "[")+times(m, "]"), nest(list(), m-1, ""))
	reads(t, times(m, `{"a":`)+"1"+times(m, "}"), nest(number("1", 0), m, "a"))
	reads(t, times(m-1, "[")+"{}"+times(m-1, "]"), nest(object(), m-1, ""))
	reads(t, times(m-1, "[")+"[],[],{},[1]"+times(m-1, "]"), nest(list(list(), list(), object(), list(number("1", 0))), m-2, ""))
	wide := times(m-1, "[") + "[]" + times(m-1, "]")
	if got, err := json.Parse("[" + times(200, "[],[[]],{},{\"a\":[]},") + "[]]"); err != nil || len(got.List) != 801 || json.Depth(got) != 3 {
		t.Errorf("a wide list: %d, %v", len(got.List), err)
	}
	reads(t, wide, nest(list(), m-1, ""))

	refuses(t, times(m+1, "["), m, api.ErrDeep)
	refuses(t, times(m+1, "[")+times(m+1, "]"), m, api.ErrDeep)
	refuses(t, times(m, "[")+" {", m+1, api.ErrDeep)
	refuses(t, times(m, `{"a":`)+"{}", 5*m, api.ErrDeep)
	refuses(t, times(m, `{"a":`)+"[", 5*m, api.ErrDeep)
	refuses(t, times(m/2, `[{"a":`)+"[", 6*m/2, api.ErrDeep)
	refuses(t, times(m, "[")+"1,[", m+2, api.ErrDeep)
	refuses(t, times(m-1, "[")+"[],[[", m-1+4, api.ErrDeep)
	refuses(t, "["+wide+"]", m, api.ErrDeep)
	refuses(t, times(m+1, "[")+"x", m, api.ErrDeep)

	// where a bracket can't stand, that is what is wrong with it
	refuses(t, times(m-1, "[")+"{[", m, api.ErrDue)
	refuses(t, times(m-1, "[")+"{{", m, api.ErrDue)
	refuses(t, times(m, "[")+"1[", m+1, api.ErrDue)
	refuses(t, times(m, "[")+times(m, "]")+"[", 2*m, api.ErrDue)
	refuses(t, times(m, "["), m, api.ErrDue)
}

// P2.5: names that say the same in different ways; told behind the name's end, ahead of what follows it.
func TestParseTwice(t *testing.T) {
	for _, x := range []struct {
		s  string
		at int
	}{
		{`{"a":1,"\u0061":2}`, 7}, {`{"a":1,"a":1}`, 7}, {`{"":1,"":1}`, 6}, {`{"\u0061":1, "a":2}`, 13}, {`{"a":1,"b":2,"a":3}`, 13}, {`{"a":1,"b":2,"b":3,"a":4}`, 13}, {`{"/":1,"\/":2}`, 7}, {`{"\u00e9":1,"é":2}`, 12}, {`{"\u00E9":1,"\u00e9":2}`, 12}, {`{"\n":1,"\u000a":2}`, 8}, {`{"\"":1,"\u0022":2}`, 8}, {"{\"\U0001f600\":1,\"\\ud83d\\ude00\":2}", 10}, {"{\"\ufffd\":1,\"\\ufffd\":2}", 9}, {`{"\u0000":1,"\u0000":2}`, 12},
		{`{"a":1,"a"`, 7}, {`{"a":1,"a"x`, 7}, {`{"a":1,"a" 01`, 7}, {`{"a":1,"a":[01]}`, 7}, {`[{"a":{"b":1,"b":2}}]`, 13}, {`{"a":{},"a":{}}`, 8}, {`{"a":{"a":{"a":1}},"a":2}`, 19}, {"{\"a\":1,\n\t\"a\":2}", 9},
	} {
		refuses(t, x.s, x.at, api.ErrTwice)
	}
	refuses(t, `{"a":1,"a`, 9, api.ErrText)
	refuses(t, `{"a":1,"a\q":2}`, 9, api.ErrText)
	refuses(t, `{"a":01,"a":2}`, 5, api.ErrNumber)
	refuses(t, `{"a":1,"b",`, 10, api.ErrDue)
	refuses(t, `{"a":1"a":2}`, 6, api.ErrDue)
	reads(t, `{"a":{"b":1},"b":{"a":1}}`, object(field("a", object(field("b", number("1", 0)))), field("b", object(field("a", number("1", 0))))))
	reads(t, `{"a":1,"\\u0061":2}`, object(field(`\u0061`, number("2", 0)), field("a", number("1", 0))))

	many := ""
	for i := range 20000 {
		many += fmt.Sprintf(`"%d":1,`, i)
	}
	if got, err := json.Parse("{" + many + `"x":1}`); err != nil || len(got.Fields) != 20001 {
		t.Errorf("many names: %d, %v", len(got.Fields), err)
	}
	refuses(t, "{"+many+`"19999":1}`, len(many)+1, api.ErrTwice)
	refuses(t, "{"+many+`"0":1}`, len(many)+1, api.ErrTwice)
}

// P2.6
func TestParseTexts(t *testing.T) {
	for s, want := range map[string]string{
		`"\ud83d\ude00"`: "\U0001f600", `"\uD83D\uDE00"`: "\U0001f600", `"\uD83d\udE00"`: "\U0001f600", `"a"`: "a", `""`: "", `" "`: " ", "\"\x7f\"": "\x7f", `"é"`: "é", `"[1,{}]"`: "[1,{}]", `"a/b"`: "a/b", "\"'\"": "'",
		`"\"\\\/\b\f\n\r\t"`: "\"\\/\b\f\n\r\t", `"\\n"`: `\n`, `"\\"`: `\`, `"\\\\"`: `\\`, `"\""`: `"`, `"\\\""`: `\"`, `"\u0022"`: `"`, `"\u005c"`: `\`, `"\u005Cn"`: `\n`,
		`"\u0000"`: "\x00", `"\u0008\u001f\u0020"`: "\x08\x1f ", `"\u00e9\u00E9\u00Ee"`: "éé\u00ee", `"\u00e9a"`: "éa", `"\u00e90"`: "é0", `"\u007f\u0080\u07ff\u0800"`: "\u007f\u0080\u07ff\u0800", `"\ud7ff\ue000\uffff\uFFFE\ufffd\uFEFF"`: "\ud7ff\ue000\uffff\ufffe\ufffd\ufeff", `"\uabcd\uEF01"`: "\uabcd\uef01",
		`"\ud800\udc00"`: "\U00010000", `"\udbff\udfff"`: "\U0010ffff", `"\ud800\udfff"`: "\U000103ff", `"\udbff\udc00"`: "\U0010fc00", `"\ud800\udc00\ud801\udc01x"`: "\U00010000\U00010401x", `"x\ud83d\ude00\u0041"`: "x\U0001f600A",
		"\"\u007f\u0080\u07ff\u0800\ud7ff\ue000\ufffd\uffff\U00010000\U0010ffff\"": "\u007f\u0080\u07ff\u0800\ud7ff\ue000\ufffd\uffff\U00010000\U0010ffff", "\"\u2028\ufeff\"": "\u2028\ufeff",
	} {
		reads(t, s, text(want))
		reads(t, "["+s+"]", list(text(want)))
		reads(t, "{"+s+":"+s+"}", object(field(want, text(want))))
	}
}

// P2.7: also where the text is a name, with the place moved.
func TestParseWrongTexts(t *testing.T) {
	for _, x := range []struct {
		s  string
		at int
	}{
		{`"\ud83d"`, 1}, {`"x\q"`, 2}, {`"ab`, 3}, {`"`, 1}, {`"é`, 3}, {"\"\n\"", 1}, {"\"a\x00\"", 2}, {"\"\x1f\"", 1}, {"\"\t\"", 1}, {"\"\r", 1}, {"\"ab\x01", 3}, {"\"é\n", 3},
		{"\"a\xff\"", 2}, {"\"\x80\"", 1}, {"\"\xbf", 1}, {"\"\xc0\x80\"", 1}, {"\"\xc1\xbf\"", 1}, {"\"\xc3\"", 1}, {"\"\xc3", 1}, {"\"\xc3(\"", 1}, {"\"\xe0\x80\x80\"", 1}, {"\"\xe0\x9f\xbf\"", 1}, {"\"\xe2\x82\"", 1}, {"\"\xe2\x82", 1}, {"\"\xed\xa0\x80\"", 1}, {"\"\xed\xbf\xbf\"", 1}, {"\"\xed\xa0\xbd\xed\xb8\x80\"", 1}, {"\"\xf0\x80\x80\x80\"", 1}, {"\"\xf0\x8f\xbf\xbf\"", 1}, {"\"\xf0\x9f\x98\"", 1}, {"\"\xf0\x9f\x98", 1}, {"\"\xf4\x90\x80\x80\"", 1}, {"\"\xf5\x80\x80\x80\"", 1}, {"\"\xf8\x88\x80\x80\x80\"", 1}, {"\"\xfe\"", 1}, {"\"é\xa9\"", 3}, {"\"é\xc3\"", 3}, {"\"\ufffd\xff\"", 4},
		{`"\`, 1}, {`"\"`, 3}, {`"\\`, 3}, {`"\\\`, 3}, {`"\\\"`, 5}, {`"\x41"`, 1}, {`"\0"`, 1}, {`"\'"`, 1}, {`"\a"`, 1}, {`"\v"`, 1}, {`"\N"`, 1}, {`"\B"`, 1}, {`"\U0041"`, 1}, {`"\ "`, 1}, {"\"\\\n\"", 1}, {"\"\\\xc3\xa9\"", 1}, {"\"\\\xff\"", 1}, {"\"\\\x00\"", 1}, {`"\u`, 1}, {`"\u"`, 1}, {`"\u1"`, 1}, {`"\u12"`, 1}, {`"\u123"`, 1}, {`"\u123`, 1}, {`"\u1234`, 7}, {`"\u123g"`, 1}, {`"\ug123"`, 1}, {`"\u 123"`, 1}, {`"\u+123"`, 1}, {`"\u-123"`, 1}, {`"\u0x12"`, 1}, {`"\u1_23"`, 1}, {`"\u12é"`, 1}, {`"\u{41}"`, 1}, {`"\u12:4"`, 1}, {`"\u12@4"`, 1}, {"\"\\u12`4\"", 1}, {`"\u12/4"`, 1}, {`"a\u004"`, 2}, {`"\u0041\u004"`, 7}, {`"\u0041\`, 7},
		{`"\udc00"`, 1}, {`"\udfff"`, 1}, {`"\uDC00\uD800"`, 1}, {`"\ud800"`, 1}, {`"\udbff"`, 1}, {`"\udbff`, 1}, {`"\ud83d\u0041"`, 1}, {`"\ud83d\ud83d\ude00"`, 1}, {`"\ud800\udbff"`, 1}, {`"\ud800\ue000"`, 1}, {`"\ud83dx\ude00"`, 1}, {`"\ud83d\n"`, 1}, {`"\ud83d\`, 1}, {`"\ud83d\u`, 1}, {`"\ud83d\ude0"`, 1}, {`"\ud83d\ude0`, 1}, {`"\ud83d\udegg"`, 1}, {`"\ud83d\Ude00"`, 1}, {`"\ud83d\\ude00"`, 1}, {`"\ud83d \ude00"`, 1}, {`"\ud83dude00xx"`, 1}, {`"\u0041\udc00"`, 7}, {`"\u0041\ud83d"`, 7}, {`"\ud83d\ude00\ude00"`, 13}, {`"\ud83d\ude00\ud83d"`, 13}, {`"\ud83d\ude00`, 13}, {"\"\\ud83d\xff", 1},
		{`"a\qb\q"`, 2}, {"\"\\q\xff\"", 1}, {"\"\xff\\q\"", 1}, {"\"\x01\xff\"", 1}, {"\"\\u12\x01", 1},
	} {
		refuses(t, x.s, x.at, api.ErrText)
		refuses(t, " [1, "+x.s, x.at+5, api.ErrText)
		refuses(t, "{"+x.s, x.at+1, api.ErrText)
		refuses(t, `{"":`+x.s, x.at+4, api.ErrText)
	}
}

// P2.6, P2.7: every number that `\u` can tell, alone and ahead of the second half of a pair.
func TestParseEveryNumber(t *testing.T) {
	for n := range rune(0x10000) {
		for _, s := range []string{fmt.Sprintf(`"\u%04x"`, n), fmt.Sprintf(`"\u%04X"`, n)} {
			got, err := json.Parse(s)
			if n >= 0xd800 && n <= 0xdfff {
				if f, ok := err.(*api.Fault); !ok || f.Err != api.ErrText || f.At != 1 {
					t.Fatalf("%s: %v, %v", s, got, err)
				}
			} else if err != nil || !identical(got, text(string(n))) {
				t.Fatalf("%s: %v, %v", s, got, err)
			}
		}
		followed := fmt.Sprintf(`"\u%04x\udc00"`, n)
		switch {
		case n >= 0xd800 && n <= 0xdbff:
			reads(t, followed, text(string(0x10000+(n-0xd800)*0x400)))
		case n >= 0xdc00 && n <= 0xdfff:
			refuses(t, followed, 1, api.ErrText)
		default:
			refuses(t, followed, 7, api.ErrText)
		}
	}
}

// P2.3, P2.6: every letter, as it stands, and, from 10000 on, as a pair.
func TestParseEveryLetter(t *testing.T) {
	for n := rune(0x20); n <= 0x10ffff; n++ {
		if n == '"' || n == '\\' || n >= 0xd800 && n <= 0xdfff {
			continue
		}
		v := text(string(n))
		s := `"` + string(n) + `"`
		if got, err := json.Parse(s); err != nil || !identical(got, v) {
			t.Fatalf("%x: %v, %v", n, got, err)
		}
		if json.Print(v) != s {
			t.Fatalf("Print of %x: %x", n, json.Print(v))
		}
		if n < 0x10000 || n%7 != 0 && n < 0x10ff00 {
			continue
		}
		pair := fmt.Sprintf(`"\u%04x\u%04x"`, 0xd800+(n-0x10000)/0x400, 0xdc00+n%0x400)
		if got, err := json.Parse(pair); err != nil || !identical(got, v) {
			t.Fatalf("%s: %v, %v", pair, got, err)
		}
	}
}

// P2.4: MaxText and one more; that is found ahead of all else.
func TestParseLong(t *testing.T) {
	const m = api.MaxText
	reads(t, times(m-1, " ")+"1", number("1", 0))
	reads(t, "1"+times(m-1, "\n"), number("1", 0))
	reads(t, `"`+times(m-2, "a")+`"`, text(times(m-2, "a")))
	reads(t, times(m, "7"), number(times(m, "7"), 0))
	if got, err := json.Parse("[" + times(m/2-2, "0,") + "0 ]"); err != nil || len(got.List) != m/2-1 {
		t.Errorf("a long list: %d, %v", len(got.List), err)
	}
	refuses(t, times(m, " "), m, api.ErrDue)
	refuses(t, times(m-1, " ")+"x", m-1, api.ErrDue)
	refuses(t, `"`+times(m-1, "a"), m, api.ErrText)
	refuses(t, times(m-1, "1")+".", 0, api.ErrNumber)

	for _, s := range []string{times(m, " ") + "1", "1" + times(m, " "), `"` + times(m-1, "a") + `"`, times(m+1, "7"), times(m+1, "["), times(m+1, "x"), times(m+1, "\xff"), times(m+1, `"`), "01" + times(m-1, " "), times(2*m, " "), times(m+1, "\x00")} {
		refuses(t, s, 0, api.ErrLong)
	}
}
