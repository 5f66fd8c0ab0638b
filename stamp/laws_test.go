package stamp_test

import (
	"cmp"
	"math"
	"math/big"
	"math/rand"
	"regexp"
	"strconv"
	"strings"
	"testing"
	"time"

	"voyage/api"
	"voyage/stamp"
)

func newRand(seed int64) *rand.Rand { return rand.New(rand.NewSource(seed)) }

// oneOf picks one of these.
func oneOf[T any](r *rand.Rand, items ...T) T { return items[r.Intn(len(items))] }

// anyInstant lies where something happens more often than elsewhere.
func anyInstant(r *rand.Rand) api.Instant {
	near := oneOf[int64](r, 0, 0, -62167219200, 253402300800, math.MaxInt64, math.MinInt64, 951782400, r.Int63n(320000000000)-64000000000, int64(r.Uint64()))
	nano := oneOf(r, 0, 1, -1, 500000000, 999999999, 1000000000, r.Intn(1000000000), r.Intn(1000)*1000000, int(r.Uint64()), math.MaxInt, math.MinInt)
	return at(near+int64(r.Intn(5))-2, nano) // the sum may wrap round: that is any moment, too
}

// tellable is a moment that has a text, not always in the one form.
func tellable(r *rand.Rand) api.Instant {
	const first, behind = -62167219200, 253402300800
	sec := oneOf(r, first+r.Int63n(behind-first), first+r.Int63n(100000), behind-1-r.Int63n(100000), r.Int63n(200000)-100000)
	nano := oneOf(r, 0, r.Intn(1000000000), r.Intn(10)*100000000, r.Intn(1000), 999999999)
	carry := r.Int63n(3) - 1
	return at(sec-carry, nano+int(carry)*1000000000)
}

// nanos is how many billionths of a second a moment lies behind 1970, as it is told.
func nanos(m api.Instant) *big.Int {
	n := big.NewInt(m.Sec)
	n.Mul(n, big.NewInt(1000000000))
	return n.Add(n, big.NewInt(int64(m.Nano)))
}

// bounded is a number of billionths, or the one of the first or last moment of all.
func bounded(n *big.Int) *big.Int {
	if last := nanos(at(math.MaxInt64, 999999999)); n.Cmp(last) > 0 {
		return last
	}
	if first := nanos(at(math.MinInt64, 0)); n.Cmp(first) < 0 {
		return first
	}
	return n
}

// P6.3, P6.5: held against whole numbers without bounds.
func TestNormAndCmpByBillionths(t *testing.T) {
	r := newRand(1)
	for range 300000 {
		a, b := anyInstant(r), anyInstant(r)
		if r.Intn(3) == 0 {
			b = at(a.Sec-1, a.Nano+oneOf(r, 999999999, 1000000000, 1000000001))
		}
		one, m, n := stamp.Norm(a), bounded(nanos(a)), bounded(nanos(b))
		if one.Nano < 0 || one.Nano > 999999999 || nanos(one).Cmp(m) != 0 {
			t.Fatalf("Norm(%v): %v", a, one)
		}
		if again := stamp.Norm(one); again != one {
			t.Fatalf("Norm of Norm(%v): %v", a, again)
		}
		if got := stamp.Cmp(a, b); got != m.Cmp(n) {
			t.Fatalf("Cmp(%v, %v): %d, want %d", a, b, got, m.Cmp(n))
		}
	}
}

// P6.6, P6.8: each day behind the one ahead of it, by the rule of the months, through more than two cycles of leap years on both sides of the year 0.
func TestDayByDay(t *testing.T) {
	lengths := []int{31, 28, 31, 30, 31, 30, 31, 31, 30, 31, 30, 31}
	days := -719528 - 2*146097 // -800-01-01: two cycles ahead of 0000-01-01
	for year := -800; year <= 2801; year++ {
		leap := year%400 == 0 || year%4 == 0 && year%100 != 0
		for i, length := range lengths {
			if leap && i == 1 {
				length++
			}
			for day := 1; day <= length; day++ {
				lies(t, year, i+1, day, days)
				days++
			}
			if t.Failed() {
				t.FailNow()
			}
		}
	}
}

// P6.6: each year that there is: its first day, its last one, and the two at which February ends, held against the library's calendar.
func TestEachYear(t *testing.T) {
	for year := -999999; year <= 999999; year++ {
		march := int(time.Date(year, 3, 1, 0, 0, 0, 0, time.UTC).Unix() / 86400)
		if s := time.Date(year, 3, 1, 0, 0, 0, 0, time.UTC).Unix(); s%86400 != 0 {
			t.Fatal(s)
		}
		last := time.Unix(int64(march-1)*86400, 0).UTC().Day()
		lies(t, year, 3, 1, march)
		lies(t, year, 2, last, march-1)
		lies(t, year, 1, 1, march-31-last)
		lies(t, year, 12, 31, march+305)
		noDay(t, year, 2, last+1)
		if t.Failed() {
			t.FailNow()
		}
	}
}

// P6.6, P6.8: any days, held against the library's calendar.
func TestAnyDay(t *testing.T) {
	r := newRand(2)
	for range 300000 {
		year, month, day := r.Intn(2000001)-1000000, r.Intn(14), r.Intn(33)
		made := time.Date(year, time.Month(month), day, 0, 0, 0, 0, time.UTC)
		if made.Year() != year || int(made.Month()) != month || made.Day() != day || year < -999999 || year > 999999 {
			noDay(t, year, month, day)
		} else {
			lies(t, year, month, day, int(made.Unix()/86400))
		}
		days := r.Intn(800000000) - 400000000
		made = time.Unix(int64(days)*86400, 0).UTC()
		if made.Year() < -999999 || made.Year() > 999999 {
			noDate(t, days)
		} else {
			lies(t, made.Year(), int(made.Month()), made.Day(), days)
		}
	}
}

// shape is that of a moment's text.
var shape = regexp.MustCompile(`^([0-9]{4})-([0-9]{2})-([0-9]{2})T([0-9]{2}):([0-9]{2}):([0-9]{2})(?:\.([0-9]{1,9}))?(?:Z|([+-])([0-9]{2}):([0-9]{2}))$`)

// byShape reads a text by its shape and the library's calendar.
func byShape(s string) (api.Instant, bool) {
	m := shape.FindStringSubmatch(s)
	if m == nil || strings.HasSuffix(s, "\n") {
		return api.Instant{}, false
	}
	n := func(i int) int {
		x, _ := strconv.Atoi(m[i])
		return x
	}
	made := time.Date(n(1), time.Month(n(2)), n(3), n(4), n(5), n(6), 0, time.UTC)
	if made.Format("2006-01-02T15:04:05") != s[:19] || n(9) > 23 || n(10) > 59 {
		return api.Instant{}, false
	}
	offset := int64(n(9)*3600 + n(10)*60)
	if m[8] == "-" {
		offset = -offset
	}
	nano, _ := strconv.Atoi((m[7] + "000000000")[:9])
	return at(made.Unix()-offset, nano), true
}

// holds wants of a text what its shape says, and tells whether it is a moment's.
func holds(t *testing.T, s string) bool {
	t.Helper()
	want, ok := byShape(s)
	got, err := stamp.Parse(s)
	if got != want || ok && err != nil || !ok && err != api.ErrTime {
		t.Fatalf("Parse(%q): %v, %v, want %v, %v", s, got, err, want, ok)
	}
	return ok
}

// P6.1, P6.2: texts with every other byte in each place, with one byte more or fewer, and with two bytes more.
func TestSpoiledTexts(t *testing.T) {
	fine, wrong := 0, 0
	count := func(s string) {
		if holds(t, s) {
			fine++
		} else {
			wrong++
		}
	}
	for _, s := range []string{"2024-02-29T23:59:59Z", "1999-12-31T00:00:00.123456789Z", "0000-01-01T19:09:10+23:59", "9999-10-30T20:40:50.5-00:00", "1900-02-28T23:59:59.12345678-19:09"} {
		count(s)
		for i := range len(s) + 1 {
			for b := range 256 {
				count(s[:i] + string([]byte{byte(b)}) + s[i:])
				if i < len(s) {
					count(s[:i] + string([]byte{byte(b)}) + s[i+1:])
				}
			}
			if i < len(s) {
				count(s[:i] + s[i+1:])
			}
			for _, more := range []string{"00", ".0", "+0", "Z0", "0Z", ":0", "-0", "T0", "+00:00", ".5", "\n"} {
				count(s[:i] + more + s[i:])
			}
		}
	}
	if fine < 400 || wrong < 10000 {
		t.Errorf("%d fine, %d wrong", fine, wrong)
	}
}

// P6.2: every hour, minute and second of two digits, of the time and of the offset, and every month and day of several years.
func TestEveryNumber(t *testing.T) {
	two := func(n int) string { return string([]byte{byte('0' + n/10), byte('0' + n%10)}) }
	for i := range 100 {
		for j := range 100 {
			for _, year := range []string{"0000", "0004", "0100", "1900", "2000", "2023", "2024", "9999"} {
				holds(t, year+"-"+two(i)+"-"+two(j)+"T00:00:00Z")
			}
			holds(t, "2024-01-01T"+two(i)+":"+two(j)+":00Z")
			holds(t, "2024-01-01T00:"+two(i)+":"+two(j)+"Z")
			holds(t, "2024-01-01T00:00:00+"+two(i)+":"+two(j))
			holds(t, "2024-01-01T00:00:00.5-"+two(i)+":"+two(j))
		}
	}
}

// P6.4: held against the library's text; P6.7: Parse of Text(t) is t's one form.
func TestParseOfText(t *testing.T) {
	r := newRand(3)
	for range 300000 {
		m := tellable(r)
		one := stamp.Norm(m)
		tells(t, m, time.Unix(one.Sec, int64(one.Nano)).UTC().Format("2006-01-02T15:04:05.999999999Z"))
		s, err := stamp.Text(m)
		if got, wrong := stamp.Parse(s); err != nil || wrong != nil || got != one {
			t.Fatalf("%v: %q, %v, read as %v, %v", m, s, err, got, wrong)
		}
	}
	for range 300000 {
		m := anyInstant(r)
		one := stamp.Norm(m)
		s, err := stamp.Text(m)
		if beyond := one.Sec < -62167219200 || one.Sec > 253402300799; beyond != (err == api.ErrTime) || beyond != (s == "") {
			t.Fatalf("Text(%v): %q, %v", m, s, err)
		}
	}
}

// P6.7: of two texts with as many bytes the earlier moment's stands ahead.
func TestOrderOfTexts(t *testing.T) {
	r := newRand(4)
	held := [3]int{}
	for range 600000 {
		a, b := tellable(r), tellable(r)
		if r.Intn(2) == 0 {
			b = at(a.Sec+r.Int63n(3)-1, a.Nano+oneOf(r, 0, 1, -1, 1000, 100000000))
		}
		s, err := stamp.Text(a)
		u, wrong := stamp.Text(b)
		if err != nil || wrong != nil || len(s) != len(u) {
			continue
		}
		order := stamp.Cmp(a, b)
		if got := cmp.Compare(s, u); got != order {
			t.Fatalf("%q, %q: %d, of the moments %d", s, u, got, order)
		}
		held[order+1]++
	}
	if min(held[0], held[1], held[2]) < 10000 {
		t.Errorf("too few: %v", held)
	}
}

// P6.7: Text of what Parse reads is s, where s ends with `Z` and has no noughts at the end of its billionths.
func TestTextOfParse(t *testing.T) {
	r := newRand(5)
	same, other := 0, 0
	for range 300000 {
		s, err := stamp.Text(tellable(r))
		if err != nil {
			t.Fatal(err)
		}
		s = s[:19] + oneOf(r, "", ".5", ".50", ".0", ".000000001", ".123456789", ".120", ".05", ".000000000") + oneOf(r, "Z", "Z", "+00:00", "-00:00", "+01:00")
		m, err := stamp.Parse(s)
		if err != nil {
			t.Fatalf("%q: %v", s, err)
		}
		told, err := stamp.Text(m)
		whole, isZ := strings.CutSuffix(s, "Z")
		short := isZ && (len(whole) == 19 || !strings.HasSuffix(whole, "0"))
		if short {
			same++
		} else {
			other++
		}
		if short != (err == nil && told == s) {
			t.Fatalf("%q: told as %q, %v", s, told, err)
		}
	}
	if same < 10000 || other < 10000 {
		t.Errorf("%d, %d", same, other)
	}
}

// R4: asked again, and with other calls in between, the answers are the same.
func TestAskedAgain(t *testing.T) {
	r := newRand(6)
	for range 10000 {
		m, n := tellable(r), anyInstant(r)
		s, err := stamp.Text(m)
		one, wrong := stamp.Parse(s)
		stamp.Text(n)
		stamp.Parse(s + "x")
		stamp.Date(n.Nano)
		again, no := stamp.Text(m)
		two, not := stamp.Parse(s)
		if s != again || err != no || one != two || wrong != not {
			t.Fatalf("%v: %q, %v, %v, %v, again %q, %v, %v, %v", m, s, err, one, wrong, again, no, two, not)
		}
	}
}
