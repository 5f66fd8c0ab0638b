package stamp_test

import (
	"math"
	"strings"
	"testing"

	"voyage/api"
	"voyage/stamp"
)

func at(sec int64, nano int) api.Instant { return api.Instant{Sec: sec, Nano: nano} }

// reads wants the moment of a text, in its one form.
func reads(t *testing.T, s string, want api.Instant) {
	t.Helper()
	if got, err := stamp.Parse(s); err != nil || got != want {
		t.Errorf("Parse(%q): %v, %v, want %v", s, got, err, want)
	}
}

// readsNot wants ErrTime itself, and no moment beside it.
func readsNot(t *testing.T, s string) {
	t.Helper()
	if got, err := stamp.Parse(s); err != api.ErrTime || got != (api.Instant{}) {
		t.Errorf("Parse(%q): %v, %v", s, got, err)
	}
}

// tells wants the text of a moment.
func tells(t *testing.T, m api.Instant, want string) {
	t.Helper()
	if got, err := stamp.Text(m); err != nil || got != want {
		t.Errorf("Text(%v): %q, %v, want %q", m, got, err, want)
	}
}

// tellsNot wants ErrTime itself, and no text beside it.
func tellsNot(t *testing.T, m api.Instant) {
	t.Helper()
	if got, err := stamp.Text(m); err != api.ErrTime || got != "" {
		t.Errorf("Text(%v): %q, %v", m, got, err)
	}
}

// lies wants a day to lie so many days behind 1970-01-01, both ways.
func lies(t *testing.T, year, month, day, want int) {
	t.Helper()
	if got, err := stamp.Days(year, month, day); err != nil || got != want {
		t.Errorf("Days(%d, %d, %d): %d, %v, want %d", year, month, day, got, err, want)
	}
	if y, m, d, err := stamp.Date(want); err != nil || y != year || m != month || d != day {
		t.Errorf("Date(%d): %d, %d, %d, %v, want %d, %d, %d", want, y, m, d, err, year, month, day)
	}
}

// noDay wants ErrTime itself, and no number beside it.
func noDay(t *testing.T, year, month, day int) {
	t.Helper()
	if got, err := stamp.Days(year, month, day); err != api.ErrTime || got != 0 {
		t.Errorf("Days(%d, %d, %d): %d, %v", year, month, day, got, err)
	}
}

// noDate wants ErrTime itself, and no day beside it.
func noDate(t *testing.T, days int) {
	t.Helper()
	if y, m, d, err := stamp.Date(days); err != api.ErrTime || y != 0 || m != 0 || d != 0 {
		t.Errorf("Date(%d): %d, %d, %d, %v", days, y, m, d, err)
	}
}

// P6.1, P6.2
func TestParse(t *testing.T) {
	reads(t, "1970-01-01T00:00:00Z", at(0, 0))
	reads(t, "2026-11-15T12:30:05.25+01:30", at(1794740405, 250000000))
	reads(t, "1970-01-01T00:00:01Z", at(1, 0))
	reads(t, "1970-01-01T00:01:00Z", at(60, 0))
	reads(t, "1970-01-01T01:00:00Z", at(3600, 0))
	reads(t, "1970-01-02T00:00:00Z", at(86400, 0))
	reads(t, "1970-02-01T00:00:00Z", at(31*86400, 0))
	reads(t, "1971-01-01T00:00:00Z", at(365*86400, 0))
	reads(t, "1969-12-31T23:59:59Z", at(-1, 0))
	reads(t, "1969-12-31T23:59:59.75Z", at(-1, 750000000))
	reads(t, "2000-02-29T23:59:59Z", at(951868799, 0))
	reads(t, "0000-01-01T00:00:00Z", at(-62167219200, 0))
	reads(t, "0000-02-29T00:00:00Z", at(-62162121600, 0))
	reads(t, "9999-12-31T23:59:59.999999999Z", at(253402300799, 999999999))
}

// P6.2: the digits behind the point are tenths, hundredths and so on.
func TestFractions(t *testing.T) {
	for fraction, nano := range map[string]int{"": 0, ".0": 0, ".1": 100000000, ".9": 900000000, ".01": 10000000, ".10": 100000000, ".123": 123000000, ".00000001": 10, ".000000001": 1, ".100000000": 100000000, ".123456789": 123456789, ".999999999": 999999999, ".000000000": 0} {
		for zone, less := range map[string]int64{"Z": 0, "+00:01": 60, "-00:01": -60} {
			reads(t, "1970-01-01T00:00:07"+fraction+zone, at(7-less, nano))
		}
	}
}

// P6.2: an offset told by `+` is taken away, one by `-` is added.
func TestOffsets(t *testing.T) {
	for zone, sec := range map[string]int64{"Z": 0, "+00:00": 0, "-00:00": 0, "+00:01": -60, "-00:01": 60, "+01:00": -3600, "-01:00": 3600, "+01:30": -5400, "-01:30": 5400, "+23:59": -86340, "-23:59": 86340, "+14:00": -50400, "-12:45": 45900, "+00:59": -3540, "-10:00": 36000} {
		reads(t, "1970-01-01T00:00:00"+zone, at(sec, 0))
		reads(t, "1970-01-01T00:00:00.5"+zone, at(sec, 500000000))
	}
	reads(t, "0000-01-01T00:00:00+00:01", at(-62167219260, 0))
	reads(t, "0000-01-01T00:00:00.5+23:59", at(-62167219200-86340, 500000000))
	reads(t, "9999-12-31T23:59:59.5-23:59", at(253402300799+86340, 500000000))
}

// P6.1, P6.2: what is no moment's text.
func TestParseRefuses(t *testing.T) {
	for _, s := range []string{
		"2023-02-29T00:00:00Z", "2024-02-29T24:00:00Z", "2024-01-01T00:00:60Z", "2024-01-01t00:00:00Z", "2024-01-01T00:00:00", "2024-01-01T00:00:00.Z", "2024-01-01T00:00:00.1234567890Z", "2024-1-01T00:00:00Z",
		"", " ", "Z", "T", "2024", "2024-01-01", "2024-01-01T", "2024-01-01Z", "2024-01-01T00:00Z", "00:00:00Z", "x",
		"2024-01-01T00:00:00Z ", " 2024-01-01T00:00:00Z", "2024-01-01T00:00:00ZZ", "2024-01-01T00:00:00Z+00:00", "2024-01-01T00:00:00+00:00Z", "2024-01-01T00:00:00+00:000", "2024-01-01T00:00:00+00:00 ", "2024-01-01T00:00:00Z\n", "2024-01-01T00:00:00Z\x00", "2024-01-01T00:00:00.5Z.5",
		"2024-01-01 00:00:00Z", "2024-01-01T00:00:00z", "2024/01/01T00:00:00Z", "2024-01-01T00-00-00Z", "20240101T000000Z", "2024-01-01T00:00:00,5Z", "2024-01-01T00:00:00:5Z",
		"24-01-01T00:00:00Z", "02024-01-01T00:00:00Z", "+2024-01-01T00:00:00Z", "-2024-01-01T00:00:00Z", "-024-01-01T00:00:00Z", " 024-01-01T00:00:00Z", "2 24-01-01T00:00:00Z", "202x-01-01T00:00:00Z", "10000-01-01T00:00:00Z", "-0001-01-01T00:00:00Z",
		"2024-001-01T00:00:00Z", "2024-01-1T00:00:00Z", "2024-01-001T00:00:00Z", "2024-01-01T0:00:00Z", "2024-01-01T000:00:00Z", "2024-01-01T00:0:00Z", "2024-01-01T00:00:0Z", "2024-01-01T00:00:000Z", "2024-01-01T00:00:Z", "2024-01-01T+1:00:00Z", "2024-+1-01T00:00:00Z", "2024--1-01T00:00:00Z", "2024-01--1T00:00:00Z", "2024-01-01T-1:00:00Z", "2024-01-01T 1:00:00Z",
		"2024-00-01T00:00:00Z", "2024-13-01T00:00:00Z", "2024-99-01T00:00:00Z", "2024-01-00T00:00:00Z", "2024-01-32T00:00:00Z", "2024-01-99T00:00:00Z", "2024-04-31T00:00:00Z", "2024-06-31T00:00:00Z", "2024-09-31T00:00:00Z", "2024-11-31T00:00:00Z", "2024-02-30T00:00:00Z", "1900-02-29T00:00:00Z", "2100-02-29T00:00:00Z", "2001-02-29T00:00:00Z", "0001-02-29T00:00:00Z", "0100-02-29T00:00:00Z", "9999-02-29T00:00:00Z",
		"2024-01-01T24:00:00Z", "2024-01-01T25:00:00Z", "2024-01-01T99:00:00Z", "2024-01-01T00:60:00Z", "2024-01-01T00:99:00Z", "2024-01-01T23:59:60Z", "2016-12-31T23:59:60Z", "2024-01-01T00:00:99Z",
		"2024-01-01T00:00:00+", "2024-01-01T00:00:00-", "2024-01-01T00:00:00+0", "2024-01-01T00:00:00+00", "2024-01-01T00:00:00+00:", "2024-01-01T00:00:00+00:0", "2024-01-01T00:00:00+0000", "2024-01-01T00:00:00+000:00", "2024-01-01T00:00:00+1:00", "2024-01-01T00:00:00+01:0", "2024-01-01T00:00:0000:00", "2024-01-01T00:00:00 01:00", "2024-01-01T00:00:00+ 1:00", "2024-01-01T00:00:00+-1:00", "2024-01-01T00:00:00+-01:00", "2024-01-01T00:00:00\u221201:00", "2024-01-01T00:00:00+01:00:00",
		"2024-01-01T00:00:00+24:00", "2024-01-01T00:00:00-24:00", "2024-01-01T00:00:00+99:00", "2024-01-01T00:00:00+00:60", "2024-01-01T00:00:00-00:60", "2024-01-01T00:00:00-00:99", "2024-01-01T00:00:00-23:60", "2024-01-01T00:00:00.5+24:00",
		"2024-01-01T00:00:00.", "2024-01-01T00:00:00.+00:00", "2024-01-01T00:00:00.-00:00", "2024-01-01T00:00:00.5", "2024-01-01T00:00:00..5Z", "2024-01-01T00:00:00.5.5Z", "2024-01-01T00:00:00.0000000000Z", "2024-01-01T00:00:00.0000000001Z", "2024-01-01T00:00:00.1234567890+00:00", "2024-01-01T00:00:00. 5Z", "2024-01-01T00:00:00.5 Z", "2024-01-01T00:00:00.-5Z", "2024-01-01T00:00:00.xZ", "2024-01-01T00:00:00.5e1Z", "2024-01-01T00:00.5Z", "2024-01-01.5T00:00:00Z",
		"２024-01-01T00:00:00Z", "2024-01-01T00:00:0٣Z", "2024-01-01T00:00:00\xffZ", "\xff024-01-01T00:00:00Z", "2024-01-01T00:00:0/Z", "2024-01-01T00:00:0:Z", "NaN", "null",
	} {
		readsNot(t, s)
	}
	readsNot(t, strings.Repeat("0", 1<<20))
	readsNot(t, "2024-01-01T00:00:00."+strings.Repeat("0", 1<<20)+"Z")
	readsNot(t, "2024-01-01T00:00:00Z"+strings.Repeat("Z", 1<<20))
}

// P6.1: a text that is cut off anywhere is none.
func TestCutOff(t *testing.T) {
	for _, s := range []string{"2024-02-29T23:59:59Z", "2024-02-29T23:59:59.123456789Z", "2024-02-29T23:59:59+12:34", "2024-02-29T23:59:59.5-12:34"} {
		if _, err := stamp.Parse(s); err != nil {
			t.Errorf("%q: %v", s, err)
		}
		for i := range len(s) {
			readsNot(t, s[:i])
			if i > 0 {
				readsNot(t, s[i:])
			}
		}
	}
}

// P6.3
func TestNorm(t *testing.T) {
	const most, least = math.MaxInt64, math.MinInt64
	for _, x := range []struct{ in, want api.Instant }{
		{at(5, -1), at(4, 999999999)}, {at(0, 2500000000), at(2, 500000000)}, {at(most, 1000000000), at(most, 999999999)},
		{at(0, 0), at(0, 0)}, {at(7, 999999999), at(7, 999999999)}, {at(7, 1000000000), at(8, 0)}, {at(7, 1000000001), at(8, 1)}, {at(-7, 1), at(-7, 1)}, {at(0, -1), at(-1, 999999999)}, {at(0, -1000000000), at(-1, 0)}, {at(0, -1000000001), at(-2, 999999999)}, {at(0, -999999999), at(-1, 1)}, {at(-1, 1000000000), at(0, 0)},
		{at(most, 0), at(most, 0)}, {at(most, 999999999), at(most, 999999999)}, {at(most, 1000000001), at(most, 999999999)}, {at(most, math.MaxInt), at(most, 999999999)}, {at(most-1, 1000000000), at(most, 0)}, {at(most-1, 1999999999), at(most, 999999999)}, {at(most-1, 2000000000), at(most, 999999999)}, {at(most-9223372036, math.MaxInt), at(most, 854775807)}, {at(most-9223372035, math.MaxInt), at(most, 999999999)}, {at(most, -1), at(most-1, 999999999)},
		{at(least, 0), at(least, 0)}, {at(least, 1), at(least, 1)}, {at(least, -1), at(least, 0)}, {at(least, -999999999), at(least, 0)}, {at(least, -1000000000), at(least, 0)}, {at(least, math.MinInt), at(least, 0)}, {at(least+1, -1), at(least, 999999999)}, {at(least+1, -1000000000), at(least, 0)}, {at(least+1, -1000000001), at(least, 0)}, {at(least+9223372037, math.MinInt), at(least, 145224192)}, {at(least+9223372036, math.MinInt), at(least, 0)}, {at(least, 1000000000), at(least+1, 0)}, {at(least, math.MaxInt), at(least+9223372036, 854775807)},
		{at(0, math.MaxInt), at(9223372036, 854775807)}, {at(0, math.MinInt), at(-9223372037, 145224192)},
	} {
		if got := stamp.Norm(x.in); got != x.want {
			t.Errorf("Norm(%v): %v, want %v", x.in, got, x.want)
		}
	}
}

// P6.4
func TestText(t *testing.T) {
	tells(t, at(-1, 500000000), "1969-12-31T23:59:59.5Z")
	tells(t, at(253402300799, 0), "9999-12-31T23:59:59Z")
	tells(t, at(0, 0), "1970-01-01T00:00:00Z")
	tells(t, at(951782400, 120), "2000-02-29T00:00:00.00000012Z")
	tells(t, at(951868799, 999999999), "2000-02-29T23:59:59.999999999Z")
	tells(t, at(253402300799, 999999999), "9999-12-31T23:59:59.999999999Z")
	tells(t, at(-62167219200, 0), "0000-01-01T00:00:00Z")
	tells(t, at(-62167219200, 1), "0000-01-01T00:00:00.000000001Z")
	tells(t, at(-62162121600, 0), "0000-02-29T00:00:00Z")
	tells(t, at(-61851600000, 0), "0010-01-01T00:00:00Z")
	tells(t, at(3723, 0), "1970-01-01T01:02:03Z")
	tells(t, at(86399, 100000000), "1970-01-01T23:59:59.1Z")
	tells(t, at(0, 10), "1970-01-01T00:00:00.00000001Z")
	tells(t, at(0, 100000001), "1970-01-01T00:00:00.100000001Z")
	tells(t, at(5, -1), "1970-01-01T00:00:04.999999999Z")
	tells(t, at(0, -86400000000001), "1969-12-30T23:59:59.999999999Z")
	tells(t, at(253402300800, -1), "9999-12-31T23:59:59.999999999Z")
	tells(t, at(-62167219201, 1000000000), "0000-01-01T00:00:00Z")
	for _, m := range []api.Instant{at(253402300800, 0), at(253402300799, 1000000000), at(-62167219201, 0), at(-62167219201, 999999999), at(-62167219200, -1), at(-62167219260, 0), at(253402300799+86400*366, 0), at(-62167219200-86400*366, 0), at(1<<40, 0), at(-1<<40, 0), at(31494784780800, 0), at(-31619087596800, 0), at(1<<62, 0), at(-1<<62, 0), at(math.MaxInt64, 0), at(math.MaxInt64, math.MaxInt), at(math.MinInt64, 0), at(math.MinInt64, math.MinInt)} {
		tellsNot(t, m)
	}
	before, err := stamp.Parse("0000-01-01T00:00:00+00:01")
	if err != nil {
		t.Error(err)
	}
	tellsNot(t, before)
	behind, err := stamp.Parse("9999-12-31T23:59:59-00:01")
	if err != nil {
		t.Error(err)
	}
	tellsNot(t, behind)
}

// P6.5
func TestCmp(t *testing.T) {
	const most, least = math.MaxInt64, math.MinInt64
	for _, x := range []struct {
		a, b api.Instant
		want int
	}{
		{at(1, -1), at(0, 999999999), 0}, {at(0, 0), at(0, 1), -1},
		{at(0, 0), at(0, 0), 0}, {at(1, 0), at(0, 1), 1}, {at(1, 0), at(0, 999999999), 1}, {at(1, 0), at(0, 1000000000), 0}, {at(1, 0), at(0, 1000000001), -1}, {at(-1, 0), at(0, -999999999), -1}, {at(-1, 0), at(0, -1000000000), 0}, {at(-1, 999999999), at(0, 0), -1}, {at(5, 7), at(5, 6), 1},
		{at(least, 0), at(most, 0), -1}, {at(most, 999999999), at(least, 0), 1}, {at(most, 0), at(-1, 0), 1}, {at(least, 0), at(1, 0), -1}, {at(most, math.MaxInt), at(most, 999999999), 0}, {at(most, 1000000000), at(most, 999999998), 1}, {at(least, -1), at(least, 0), 0}, {at(least, math.MinInt), at(least, 1), -1}, {at(most, math.MaxInt), at(most, 1000000000), 0}, {at(least, math.MaxInt), at(least+9223372036, 854775807), 0},
	} {
		if got := stamp.Cmp(x.a, x.b); got != x.want {
			t.Errorf("Cmp(%v, %v): %d, want %d", x.a, x.b, got, x.want)
		}
		if got := stamp.Cmp(x.b, x.a); got != -x.want {
			t.Errorf("Cmp(%v, %v): %d, want %d", x.b, x.a, got, -x.want)
		}
	}
}

// P6.6
func TestDays(t *testing.T) {
	for _, x := range [][4]int{
		{1970, 1, 1, 0}, {2000, 3, 1, 11017}, {0, 1, 1, -719528}, {1969, 12, 31, -1}, {2000, 2, 29, 11016}, {1971, 1, 1, 365},
		{1970, 1, 2, 1}, {1970, 12, 31, 364}, {1972, 2, 29, 789}, {1972, 3, 1, 790}, {1972, 12, 31, 1095}, {1973, 1, 1, 1096}, {2100, 2, 28, 47540}, {2100, 3, 1, 47541}, {1900, 3, 1, -25508}, {1900, 2, 28, -25509}, {2026, 11, 15, 20772},
		{1, 1, 1, -719162}, {0, 12, 31, -719163}, {0, 2, 29, -719469}, {0, 3, 1, -719468}, {-1, 12, 31, -719529}, {-1, 1, 1, -719893}, {-4, 2, 29, -720930}, {-100, 3, 1, -755993}, {-100, 2, 28, -755994}, {-400, 2, 29, -865566},
		{-999999, 1, 1, -365961662}, {999999, 12, 31, 364522971}, {-999999, 1, 2, -365961661}, {999999, 12, 30, 364522970},
	} {
		lies(t, x[0], x[1], x[2], x[3])
	}
}

// P6.6: the last day of each month, and the one behind it, which is none.
func TestMonths(t *testing.T) {
	for _, x := range []struct {
		leap  int
		years []int
	}{
		{0, []int{1970, 2023, 1900, 2100, 2200, 2300, 1, 100, 9999, -1, -2, -3, -5, -100, -200, -300, -999999, 999999, 999900}},
		{1, []int{1972, 2024, 2000, 2400, 1600, 4, 96, 104, 400, 0, -4, -8, -96, -104, -400, -800, -999996, 999996, -999600, 999600}},
	} {
		for _, year := range x.years {
			total := 0
			for i, days := range []int{31, 28 + x.leap, 31, 30, 31, 30, 31, 31, 30, 31, 30, 31} {
				first, err := stamp.Days(year, i+1, 1)
				if err != nil {
					t.Errorf("%d, %d: %v", year, i+1, err)
				}
				lies(t, year, i+1, days, first+days-1)
				for _, no := range []int{days + 1, 0, -1, 32, math.MaxInt, math.MinInt} {
					noDay(t, year, i+1, no)
				}
				total += days
			}
			for _, no := range []int{0, 13, -1, -12, 24, math.MaxInt, math.MinInt} {
				noDay(t, year, no, 1)
			}
			begin, _ := stamp.Days(year, 1, 1)
			if end, err := stamp.Days(year, 12, 31); err != nil || end-begin+1 != total {
				t.Errorf("%d: %d to %d, %v", year, begin, end, err)
			}
		}
	}
}

// P6.6: what lies beyond the years that there are.
func TestBeyond(t *testing.T) {
	for _, year := range []int{1000000, -1000000, 1000004, -1000004, 1 << 31, -1 << 31, 1 << 62, -1 << 62, math.MaxInt, math.MinInt} {
		noDay(t, year, 1, 1)
		noDay(t, year, 2, 29)
		noDay(t, year, 12, 31)
		noDay(t, year, 0, 0)
	}
	for _, days := range []int{364522972, -365961663, 364522973, -365961664, 1 << 31, -1 << 31, 1 << 40, -1 << 40, 1 << 62, -1 << 62, math.MaxInt, math.MaxInt - 1, math.MinInt, math.MinInt + 1, math.MaxInt / 400, math.MinInt / 400} {
		noDate(t, days)
	}
}
