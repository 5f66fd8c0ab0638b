package record_test

import (
	"bytes"
	"strings"
	"testing"

	"voyage/api"
	"voyage/record"
)

// slots are records with one count left out: what stands ahead of it, what stands behind it, and a count that fits there.
func slots() []struct {
	name, ahead, behind string
	fits                int64
} {
	return []struct {
		name, ahead, behind string
		fits                int64
	}{
		{"Machine", "\x01", "\x01x\x01", 0},
		{"Machine", "\x01", "x\x00\x01", 1},
		{"Input", "\x01\x00", "\x01", 0},
		{"Input", "\x01\x01y", "xyz\x07", 3},
		{"Fuel", "\x01\x00\x00", "", 1},
		{"Fuel", "\x01\x00\x00", "", 200},
		{"a Place's length", "\x02", "", 0},
		{"a Place's length", "\x07", "\x00\x00", 2},
		{"a Place's number", "\x03\x01", "", 0},
		{"a Place's number", "\x03\x02\x05", "", 300},
		{"Time", "\x05\x00", "", 0},
		{"Time", "\x06\x01\x01", "", 12},
		{"a Value's text", "\x04\x00\x01", "1", 1},
		{"a Value's text", "\x04\x00\x01", `"` + strings.Repeat("x", 200) + `"`, 202},
		{"Error", "\x04\x00\x00", "\x00", 0},
		{"Error", "\x04\x00\x00", "e\x01c", 1},
		{"Cause", "\x04\x00\x00\x00", "", 0},
		{"Cause", "\x04\x00\x00\x01e", "cc", 2},
	}
}

// TestCounts holds that a count stands in as few bytes as may be, wherever one stands.
func TestCounts(t *testing.T) {
	for _, s := range slots() {
		right := modelCount(s.fits)
		b := []byte(s.ahead + right + s.behind)
		if e, err := record.Decode(b); err != nil || modelBytes(e) != string(b) {
			t.Fatalf("%s: Decode(%s): %v", s.name, short(b), err)
		}
		open := []byte(right)
		open[len(open)-1] |= 0x80
		for more := range 12 {
			checkNone(t, []byte(s.ahead+string(open)+strings.Repeat("\x80", more)+"\x00"+s.behind))
		}
		checkNone(t, []byte(s.ahead+string(open)+strings.Repeat("\x80", 100000)+"\x00"+s.behind))
		checkNone(t, []byte(s.ahead+string(open)+s.behind))
		checkNone(t, []byte(s.ahead+s.behind))
	}
}

// TestCountsBeyond holds that a count beyond each bound, or beyond any number, is none: those too that would fit if a number wrapped round.
func TestCountsBeyond(t *testing.T) {
	for _, s := range slots() {
		low := []byte(modelCount(s.fits))
		low[len(low)-1] |= 0x80
		for size := len(low) + 1; size <= 24; size++ {
			for last := 1; last < 128; last++ {
				count := string(low) + strings.Repeat("\x80", size-len(low)-1) + string([]byte{byte(last)})
				if s.name == "Time" && size <= 8 || size <= 5 { // some of these may stand here: TestCountsAgainstTheModel
					continue
				}
				checkNone(t, []byte(s.ahead+count+s.behind))
			}
		}
		for n := 1; n < 30; n++ {
			ones := strings.Repeat("\xff", n)
			checkNone(t, []byte(s.ahead+ones))
			checkNone(t, []byte(s.ahead+ones+"\x00"+s.behind))
			if n >= 8 {
				checkNone(t, []byte(s.ahead+ones+"\x01"+s.behind))
				checkNone(t, []byte(s.ahead+ones+"\x7f"+s.behind))
			}
		}
	}
}

// TestCountsAgainstTheModel holds counts of up to nine bytes, wherever one stands.
func TestCountsAgainstTheModel(t *testing.T) {
	groups := []byte{0x00, 0x01, 0x7f, 0x80, 0x81, 0xff}
	for _, s := range slots() {
		for size := 1; size <= 9; size++ {
			for _, middle := range groups[3:] {
				for _, first := range groups {
					for _, last := range []byte{0x00, 0x01, 0x02, 0x03, 0x04, 0x05, 0x07, 0x08, 0x0f, 0x10, 0x40, 0x41, 0x7f, 0x80} {
						count := bytes.Repeat([]byte{middle}, size)
						count[0], count[size-1] = first, last
						checkBytes(t, []byte(s.ahead+string(count)+s.behind))
					}
				}
			}
		}
	}
}

// checkBytes holds Decode against the model.
func checkBytes(t *testing.T, b []byte) {
	t.Helper()
	want, ok := modelDecode(b)
	if !ok {
		checkNone(t, b)
		return
	}
	checkTold(t, want, b, want)
}

// TestShortOfBytes holds that a count may not tell more than stands behind it.
func TestShortOfBytes(t *testing.T) {
	for _, text := range []string{
		"\x01\x01", "\x01\x05abcd", "\x01\x00\x05abcd", "\x01\x04abcd\x03ab", "\x01\x80\x80\x40", "\x01\x00\x80\x80\x40", "\x01\xff\xff\x3fx",
		"\x02\x01", "\x02\x03\x00\x00", "\x02\xc0\x01", "\x02\xc0\x01\x00", "\x05\x01\x00", "\x05\x01",
		"\x04\x00", "\x04\x00\x01", "\x04\x00\x01\x04nul", "\x04\x00\x01\x80\x80\x40", "\x04\x00\x00", "\x04\x00\x00\x00", "\x04\x00\x00\x02e\x00", "\x04\x00\x00\x00\x01", "\x04\x00\x00\x01e\x80\x80\x40",
	} {
		checkNone(t, []byte(text))
	}
}

// TestLongTexts holds that texts one above MaxText are none, though all their bytes are there.
func TestLongTexts(t *testing.T) {
	long := strings.Repeat("x", api.MaxText+1)
	checkBytes(t, []byte("\x01"+modelText(long[1:])+modelText(long[1:])+"\x01"))
	checkNone(t, []byte("\x01"+modelText(long)+"\x00\x01"))
	checkNone(t, []byte("\x01\x00"+modelText(long)+"\x01"))
	checkNone(t, []byte("\x04\x00\x00"+modelText(long)+"\x00"))
	checkNone(t, []byte("\x04\x00\x00\x00"+modelText(long)))
	checkNone(t, []byte("\x04\x00\x01"+modelText(long)))
	digits := strings.Repeat("1", api.MaxText+1)
	checkBytes(t, []byte("\x04\x00\x01"+modelText(digits[1:])))
	checkNone(t, []byte("\x04\x00\x01"+modelText(digits)))
}

// TestOutcomeByte holds that an Outcome begins with 0 or 1.
func TestOutcomeByte(t *testing.T) {
	for _, behind := range []string{"\x011", "\x01e\x00", "\x00\x00", "\x011\x00", "", "\x01"} {
		for mark := range 256 {
			b := []byte("\x04\x00" + string([]byte{byte(mark)}) + behind)
			if mark > 1 {
				checkNone(t, b)
				continue
			}
			checkBytes(t, b)
		}
	}
	checkTold(t, toldOf(failed("1", "")), []byte("\x04\x00\x00\x011\x00"), toldOf(failed("1", "")))
	checkNone(t, []byte("\x04\x00\x01\x011\x00"))
	checkNone(t, []byte("\x04\x00\x00\x011"))
}

// TestValueTexts holds that a Value's text is what Print tells: each text that tells the same otherwise is none.
func TestValueTexts(t *testing.T) {
	for right, others := range map[string][]string{
		"null":              {"nul", "Null", " null", "null ", "null\n", "nullnull", ""},
		"true":              {"True", "true\x00", "true,"},
		"0":                 {"-0", "0.0", "0e0", "00", "+0", "0e5", " 0"},
		"15e-1":             {"1.5", "15E-1", "150e-2", "15e-01", "0.15e1", "1.50"},
		"1e1":               {"10", "1E1", "1e+1", "1e01", "10e0", "1.0e1"},
		"1e9999":            {"10e9998", "1e+9999"},
		"-1e-9999":          {"-0.1e-9998", "-1e-09999"},
		`"A"`:               {`"\u0041"`, `"A" `, `A`, `"A`},
		`"é/"`:              {`"\u00e9/"`, `"é\/"`, "\"\xe9/\""},
		`"\b\t\n\f\r\""`:    {`"\u0008\t\n\f\r\""`, `"\b\u0009\n\f\r\""`, `"\b\t\n\f\r\u0022"`, "\"\b\\t\\n\\f\\r\\\"\""},
		`"\u001f"`:          {`"\u001F"`, "\"\x1f\""},
		"\"\uFFFD\"":        {`"\ufffd"`, "\"\xff\""},
		"\"\U0001F600\"":    {`"\ud83d\ude00"`, `"\ud83d"`},
		"[]":                {"[ ]", "[", "[]]", "[,]"},
		"[1,2]":             {"[1, 2]", "[1 ,2]", "[ 1,2]", "[1,2 ]", "[1,2,]", "[1,,2]"},
		"{}":                {"{ }", "{", "{}}"},
		`{"a":1,"b":2}`:     {`{"b":2,"a":1}`, `{"a":1,"b":2,"a":1}`, `{"a": 1,"b":2}`, `{"a":1, "b":2}`, `{"a":1,"b":2,}`, `{"a":1,"a":1,"b":2}`, `{a:1,"b":2}`},
		`{"":{"x":[null]}}`: {`{"":{"x":[null ]}}`, `{"":{"x":[null]},"":1}`},
	} {
		checkTold(t, toldOf(fine(parsed(t, right)), 1), []byte("\x04\x01\x01\x01"+modelText(right)), toldOf(fine(parsed(t, right)), 1))
		for _, other := range others {
			checkNone(t, []byte("\x04\x01\x01\x01"+modelText(other)))
		}
	}
	for _, s := range []string{"1e10000", "10e9999", "1e-10000", "[1e99999999999999999999]", "NaN", "\x00", "\xef\xbb\xbfnull", "'a'", "undefined"} {
		checkNone(t, []byte("\x04\x01\x01\x01"+modelText(s)))
	}
	deep := strings.Repeat("[", 64) + strings.Repeat("]", 64)
	checkBytes(t, []byte("\x04\x00\x01"+modelText(deep)))
	if _, err := record.Decode([]byte("\x04\x00\x01" + modelText(deep))); err != nil {
		t.Error("a Value of 64 lists:", err)
	}
	checkNone(t, []byte("\x04\x00\x01"+modelText("["+deep+"]")))
}
