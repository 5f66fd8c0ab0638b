package dec_test

import (
	"math"
	"strconv"
	"strings"
	"testing"

	"voyage/api"
	"voyage/dec"
)

// told reads {Digits}e{Exp}, with a minus ahead if Neg, and changes nothing of it: "-0150e1" is Neg, "0150", 1.
func told(s string) api.Dec {
	rest, neg := strings.CutPrefix(s, "-")
	digits, exp, _ := strings.Cut(rest, "e")
	e, _ := strconv.Atoi(exp)
	return api.Dec{Neg: neg, Digits: digits, Exp: e}
}

func noughts(n int) string { return strings.Repeat("0", n) }

// brief keeps the failures of long numbers readable.
func brief(d api.Dec) string {
	digits := d.Digits
	if len(digits) > 40 {
		digits = digits[:20] + ".." + strconv.Itoa(len(digits)) + ".." + digits[len(digits)-20:]
	}
	return strconv.FormatBool(d.Neg) + " " + strconv.Quote(digits) + " " + strconv.Itoa(d.Exp)
}

// P1.1
func TestNorm(t *testing.T) {
	for _, x := range []struct{ in, want string }{
		{"0150e1", "15e2"}, {"-00e7", "e0"}, {"1x5e0", "15e0"}, {"1e10000", "e0"}, {"100e9998", "e0"}, {"10e-10000", "1e-9999"},
		{"e0", "e0"}, {"e5", "e0"}, {"-e-5", "e0"}, {"15e0", "15e0"}, {"-15e-3", "-15e-3"}, {"-0105000e-1", "-105e2"},
		{"1e9999", "1e9999"}, {"-1e9999", "-1e9999"}, {"-1e10000", "e0"}, {"10e9998", "1e9999"}, {"10e9999", "e0"}, {"0001e9999", "1e9999"},
		{"1e-9999", "1e-9999"}, {"-1e-9999", "-1e-9999"}, {"1e-10000", "e0"}, {"-1e-10000", "e0"}, {"1000e-10002", "1e-9999"}, {"1000e-10003", "e0"},
		{"1" + noughts(9999) + "e0", "1e9999"}, {"1" + noughts(10000) + "e0", "e0"}, {"1" + noughts(19998) + "e-9999", "1e9999"}, {"1" + noughts(30000) + "e-39999", "1e-9999"},
		{"1" + noughts(10000) + "1e-1", "1" + noughts(10000) + "1e-1"}, {"0e99999", "e0"},
	} {
		if got := dec.Norm(told(x.in)); got != told(x.want) {
			t.Errorf("Norm(%s): %s, want %s", brief(told(x.in)), brief(got), brief(told(x.want)))
		}
	}
}

// P1.1: bytes that are no digits, those next to the digits in order too, letters of other alphabets' digits too.
func TestNormOddBytes(t *testing.T) {
	for in, want := range map[string]string{"/1:5;": "15", "\x001\xff5\x80": "15", "-7": "7", "1.5": "15", "1e5": "15", "\u0661\u0662": "", "\uff11": "", "x": "", " 0x10 ": "1", "+": "", "½1": "1"} {
		wantExp := 3
		if want == "" {
			wantExp = 0
		}
		if in == " 0x10 " { // 010: the nought at the end moves into the exponent
			wantExp = 4
		}
		if got := dec.Norm(api.Dec{Digits: in, Exp: 3}); got != (api.Dec{Digits: want, Exp: wantExp}) {
			t.Errorf("Norm of %q: %s", in, brief(got))
		}
	}
}

// P1.1, R1: exponents at the ends of int don't wrap round.
func TestNormFarExponents(t *testing.T) {
	for _, exp := range []int{math.MaxInt, math.MaxInt - 1, math.MinInt, math.MinInt + 1, 1 << 32, -1 << 32, 1<<32 + 1, 1<<16 + 1} {
		for _, digits := range []string{"1", "10", "1000", "0", "", "01", "5x0"} {
			if got := dec.Norm(api.Dec{Neg: true, Digits: digits, Exp: exp}); got != (api.Dec{}) {
				t.Errorf("Norm of %q and %d: %s", digits, exp, brief(got))
			}
		}
	}
}

// P1.2
func TestParse(t *testing.T) {
	for _, x := range []struct{ in, want string }{
		{"-12.50e1", "-125e0"}, {"0.0", "e0"}, {"100", "1e2"}, {"-0", "e0"}, {"1E+2", "1e2"}, {"0e99999", "e0"}, {"0.001e10002", "1e9999"}, {"1e-9999", "1e-9999"},
		{"0", "e0"}, {"7", "7e0"}, {"-7", "-7e0"}, {"10203", "10203e0"}, {"0.5", "5e-1"}, {"-0.050", "-5e-2"}, {"12.5", "125e-1"}, {"3.14", "314e-2"},
		{"1e5", "1e5"}, {"1e-5", "1e-5"}, {"1E-5", "1e-5"}, {"1e+005", "1e5"}, {"1e-0", "1e0"}, {"1e00", "1e0"}, {"0e0", "e0"}, {"-0.0E-0", "e0"}, {"0.10e1", "1e0"}, {"120e-2", "12e-1"},
		{"1e9999", "1e9999"}, {"-1e9999", "-1e9999"}, {"10e9998", "1e9999"}, {"1.5e9999", "15e9998"}, {"1.5e10000", "15e9999"}, {"0.1e10000", "1e9999"},
		{"10e-10000", "1e-9999"}, {"1.5e-9998", "15e-9999"}, {"0.1e-9998", "1e-9999"},
		{"1" + noughts(9999), "1e9999"}, {"1" + noughts(20000) + "e-20000", "1e0"}, {"0." + noughts(9998) + "1", "1e-9999"}, {"0." + noughts(20000) + "1e20001", "1e0"}, {"1." + noughts(20000), "1e0"},
		{"1e" + noughts(500) + "5", "1e5"}, {"1e-" + noughts(500) + "5", "1e-5"}, {"0e-99999999999999999999999", "e0"}, {"0." + noughts(50) + "e18446744073709551617", "e0"},
		{"1" + noughts(10000) + ".5", "1" + noughts(10000) + "5e-1"},
	} {
		got, err := dec.Parse(x.in)
		if err != nil || got != told(x.want) {
			t.Errorf("Parse(%.60s): %s, %v, want %s", x.in, brief(got), err, brief(told(x.want)))
		}
	}
}

// P1.2: texts that are no numerals; that comes ahead of an exponent beyond the bounds.
func TestParseNoNumeral(t *testing.T) {
	for _, s := range []string{
		"", "01", "1.", ".5", "+1", "1e", "1 ", "--1", "0x1",
		"-", "-.5", "-01", "00", "-00.1", "1.e1", "1..5", "1.5.5", "1.-5", "1e+", "1e-", "1e+-1", "1e1.5", "1ee1", "1e1e1", "e1", "E", ".", "1-", "1-1", "1+1",
		" 1", "\t1", "1\n", "1\x00", "\x00", "\x001", "1_000", "1,5", "Infinity", "NaN", "null", "\"1\"", "\u0661", "1\u0661", "1.\u0661", "\xff", "1\xff", "−1", "1/", "1:",
		"1e10000x", "01e10000", "1e10000 ", "1.e10000", "1e99999999999999999999.", "+1e10000", "0x1e10000",
	} {
		if got, err := dec.Parse(s); err != api.ErrNumber || got != (api.Dec{}) {
			t.Errorf("Parse(%q): %s, %v", s, brief(got), err)
		}
	}
}

// P1.2: it is the number's exponent that counts; written ones far beyond an int don't wrap round.
func TestParseExponent(t *testing.T) {
	for _, s := range []string{
		"1e10000", "10e9999", "1000e9998", "0.1e-9999", "-1e10000", "-5e-10000", "1e-10000", "1.5e-9999", "0.1e10001", "100e9999", "10e-10001",
		"1" + noughts(10000), "0." + noughts(9999) + "1", "-1" + noughts(20000) + "e-10000",
		"1e9223372036854775807", "1e-9223372036854775808", "1e18446744073709551616", "1e-18446744073709551616", "1e18446744073709551617", "1e4294967296", "1e-4294967297", "1e" + strings.Repeat("9", 3000), "1e-" + strings.Repeat("9", 3000), "1e1" + noughts(3000), "0.001e1" + noughts(64),
		"1e1099511627776", "1e-1099511627776", "1e1099511627777", "1e10995116277760",
	} {
		if got, err := dec.Parse(s); err != api.ErrExponent || got != (api.Dec{}) {
			t.Errorf("Parse(%.60s): %s, %v", s, brief(got), err)
		}
	}
}

// P1.3
func TestText(t *testing.T) {
	for _, x := range []struct{ in, want string }{
		{"15e-1", "15e-1"}, {"-3e2", "-3e2"}, {"0e5", "0"},
		{"e0", "0"}, {"-e0", "0"}, {"-00e3", "0"}, {"x", "0"}, {"7e0", "7"}, {"-7e0", "-7"}, {"70e0", "7e1"}, {"070e-1", "7"}, {"-1x5e-3", "-15e-3"}, {"10e-2", "1e-1"},
		{"1e9999", "1e9999"}, {"1e10000", "0"}, {"-1e-9999", "-1e-9999"}, {"-1e-10000", "0"}, {"100e9998", "0"},
	} {
		if got := dec.Text(told(x.in)); got != x.want {
			t.Errorf("Text(%s): %s, want %s", x.in, got, x.want)
		}
	}
}

// P1.4: a ladder of numbers, each rung told in several ways, every two held against each other.
func TestCmp(t *testing.T) {
	ladder := [][]string{
		{"-95e9998", "-0950e9997"}, {"-9e9999", "-90e9998"}, {"-1e9999"}, {"-9999999999999999999999e0"}, {"-11e0"}, {"-1e1", "-10e0", "-x1e1"}, {"-9e0"}, {"-105e-2"}, {"-1e0", "-10e-1"}, {"-99e-2"}, {"-5e-1"}, {"-1e-9998"}, {"-1e-9999", "-10e-10000"},
		{"e0", "-0e0", "000e9", "1e10000", "-1e10000", "1e-10000", "100e9998", "x"},
		{"1e-9999", "10e-10000"}, {"2e-9999"}, {"1e-9998"}, {"11e-9999"}, {"99e-2"}, {"999999e-6"}, {"1e0", "10e-1", "0001e0"}, {"10000001e-7"}, {"101e-2"}, {"11e-1"}, {"9e0"}, {"95e-1"}, {"1e1", "10e0"}, {"1e2"}, {"9e9999"}, {"95e9998"}, {"1" + noughts(9999) + "1e0"}, {"99e9999"},
	}
	for i, one := range ladder {
		for j, other := range ladder {
			want := 0
			if i < j {
				want = -1
			} else if i > j {
				want = 1
			}
			for _, a := range one {
				for _, b := range other {
					if got := dec.Cmp(told(a), told(b)); got != want {
						t.Errorf("Cmp(%s, %s): %d, want %d", brief(told(a)), brief(told(b)), got, want)
					}
				}
			}
		}
	}
}

// P1.5
func TestOf(t *testing.T) {
	for v, want := range map[int64]string{
		-1500: "-15e2", 0: "e0", 1: "1e0", -1: "-1e0", 10: "1e1", 1020: "102e1", 1 << 31: "2147483648e0",
		math.MaxInt64: "9223372036854775807e0", math.MinInt64: "-9223372036854775808e0", math.MinInt64 + 1: "-9223372036854775807e0", 1000000000000000000: "1e18",
	} {
		if got := dec.Of(v); got != told(want) {
			t.Errorf("Of(%d): %s", v, brief(got))
		}
		if back, ok := dec.Int(dec.Of(v)); back != v || !ok {
			t.Errorf("Int(Of(%d)): %d, %v", v, back, ok)
		}
		if back, ok := dec.Floor(dec.Of(v)); back != v || !ok {
			t.Errorf("Floor(Of(%d)): %d, %v", v, back, ok)
		}
	}
}

// P1.5
func TestIntAndFloor(t *testing.T) {
	type answer struct {
		v  int64
		ok bool
	}
	none := answer{}
	whole := func(v int64) answer { return answer{v, true} }
	for _, x := range []struct {
		in         string
		int, floor answer
	}{
		{"15e2", whole(1500), whole(1500)}, {"15e-1", none, whole(1)}, {"1e19", none, none}, {"-15e-1", none, whole(-2)}, {"-1e-9999", none, whole(-1)}, {"1e-9999", none, whole(0)},
		{"e0", whole(0), whole(0)}, {"-0e7", whole(0), whole(0)}, {"1e10000", whole(0), whole(0)}, {"-1e-10000", whole(0), whole(0)}, {"x", whole(0), whole(0)},
		{"-15e2", whole(-1500), whole(-1500)}, {"150e-1", whole(15), whole(15)}, {"-1x50e-1", whole(-15), whole(-15)}, {"5e-1", none, whole(0)}, {"-5e-1", none, whole(-1)}, {"999e-3", none, whole(0)}, {"-999e-3", none, whole(-1)}, {"-1001e-3", none, whole(-2)}, {"5e-30", none, whole(0)}, {"-5e-30", none, whole(-1)},
		{"1e18", whole(1e18), whole(1e18)}, {"-1e18", whole(-1e18), whole(-1e18)}, {"-1e19", none, none}, {"1e9999", none, none}, {"-1e9999", none, none}, {"2e18", whole(2e18), whole(2e18)},
		{"9223372036854775807e0", whole(math.MaxInt64), whole(math.MaxInt64)}, {"9223372036854775808e0", none, none}, {"9223372036854775809e0", none, none}, {"9999999999999999999e0", none, none}, {"99999999999999999999e0", none, none},
		{"-9223372036854775808e0", whole(math.MinInt64), whole(math.MinInt64)}, {"-9223372036854775809e0", none, none}, {"-9999999999999999999e0", none, none}, {"18446744073709551616e0", none, none}, {"18446744073709551617e0", none, none}, {"-18446744073709551617e0", none, none},
		{"92233720368547758079e-1", none, whole(math.MaxInt64)}, {"92233720368547758081e-1", none, none}, {"-92233720368547758079e-1", none, whole(math.MinInt64)}, {"-92233720368547758081e-1", none, none}, {"-99999999999999999999e-1", none, none},
		{"9223372036854775807" + noughts(30) + "1e-31", none, whole(math.MaxInt64)}, {"-9223372036854775808" + noughts(30) + "1e-31", none, none}, {"922337203685477580700e-2", whole(math.MaxInt64), whole(math.MaxInt64)}, {"12" + noughts(500) + "e-500", whole(12), whole(12)},
		{"1" + noughts(9999) + "5e-1", none, none}, {"1" + noughts(10000) + "5e-1", none, none}, {"-1" + noughts(10000) + "5e-1", none, none}, {"1" + noughts(20000) + "5e-9999", none, none}, {"-1" + noughts(20000) + "5e-9999", none, none},
	} {
		v, ok := dec.Int(told(x.in))
		if (answer{v, ok}) != x.int {
			t.Errorf("Int(%s): %d, %v", brief(told(x.in)), v, ok)
		}
		v, ok = dec.Floor(told(x.in))
		if (answer{v, ok}) != x.floor {
			t.Errorf("Floor(%s): %d, %v", brief(told(x.in)), v, ok)
		}
	}
}

const refused = "refused"

func check(t *testing.T, what string, got api.Dec, err error, want string) {
	t.Helper()
	if want == refused {
		if err != api.ErrExponent || got != (api.Dec{}) {
			t.Errorf("%s: %s, %v, want ErrExponent", what, brief(got), err)
		}
		return
	}
	if err != nil || got != told(want) {
		t.Errorf("%s: %s, %v, want %s", what, brief(got), err, brief(told(want)))
	}
}

// P1.6
func TestAdd(t *testing.T) {
	for _, x := range []struct{ a, b, want string }{
		{"1e-1", "2e-1", "3e-1"}, {"5e9999", "5e9999", refused},
		{"e0", "e0", "e0"}, {"e0", "-7e-3", "-7e-3"}, {"7e0", "-7e0", "e0"}, {"-7e0", "70e-1", "e0"}, {"9e0", "1e0", "1e1"}, {"999e0", "1e0", "1e3"}, {"1e3", "-1e0", "999e0"}, {"1e0", "-1e3", "-999e0"}, {"-1e0", "-2e0", "-3e0"}, {"12e0", "-5e-1", "115e-1"}, {"5e-1", "-12e0", "-115e-1"}, {"55e-1", "45e-1", "1e1"},
		{"4e9999", "5e9999", "9e9999"}, {"-5e9999", "-5e9999", refused}, {"5e9999", "-5e9999", "e0"}, {"6e9999", "-5e9999", "1e9999"}, {"15e9999", "-5e9999", refused}, {"5e9999", "5e9998", "55e9998"}, {"95e9998", "5e9998", refused}, {"95e9999", "-9e9999", "86e9999"},
		{"1e-9999", "1e-9999", "2e-9999"}, {"1e-9999", "9e-9999", "1e-9998"}, {"1e-9999", "-1e-9999", "e0"}, {"1e9999", "1e-9999", "1" + noughts(19997) + "1e-9999"}, {"1e9999", "-1e-9999", strings.Repeat("9", 19998) + "e-9999"},
		{"1e10000", "1e0", "1e0"}, {"-1e-10000", "1e-9999", "1e-9999"}, {"0150e1", "-1x5e2", "e0"}, {"10e-1", "-x", "1e0"},
	} {
		got, err := dec.Add(told(x.a), told(x.b))
		check(t, x.a+" + "+x.b, got, err, x.want)
		got, err = dec.Add(told(x.b), told(x.a))
		check(t, x.b+" + "+x.a, got, err, x.want)
	}
}

// P1.6
func TestMul(t *testing.T) {
	for _, x := range []struct{ a, b, want string }{
		{"25e-1", "4e0", "1e1"}, {"1e9999", "1e1", refused}, {"e0", "1e9999", "e0"},
		{"e0", "e0", "e0"}, {"-7e0", "e0", "e0"}, {"7e0", "-7e0", "-49e0"}, {"-7e0", "-7e0", "49e0"}, {"15e-1", "15e-1", "225e-2"}, {"12e3", "34e-7", "408e-4"}, {"99999999999e0", "99999999999e0", "9999999999800000000001e0"}, {"125e0", "8e0", "1e3"},
		{"5e9999", "2e-1", "1e9999"}, {"5e9999", "2e0", refused}, {"-5e9999", "2e0", refused}, {"1e9999", "1e0", "1e9999"}, {"1e5000", "1e4999", "1e9999"}, {"1e5000", "1e5000", refused}, {"1e9999", "1e9999", refused}, {"1e9999", "-1e-9999", "-1e0"}, {"5e9998", "2e0", "1e9999"},
		{"1e-9999", "1e-1", refused}, {"1e-9999", "1e-9999", refused}, {"-1e-5000", "1e-4999", "-1e-9999"}, {"1e-5000", "1e-5000", refused}, {"5e-9999", "2e-1", "1e-9999"}, {"5e-5000", "2e-5000", "1e-9999"}, {"3e-9999", "5e-1", refused}, {"1e-9999", "e0", "e0"},
		{"1e10000", "5e0", "e0"}, {"1e10000", "1e9999", "e0"}, {"1x5e-10000", "2e0", "e0"}, {"010e0", "-x30e-1", "-3e1"},
	} {
		got, err := dec.Mul(told(x.a), told(x.b))
		check(t, x.a+" * "+x.b, got, err, x.want)
		got, err = dec.Mul(told(x.b), told(x.a))
		check(t, x.b+" * "+x.a, got, err, x.want)
	}
}

// P1.7
func TestDelay(t *testing.T) {
	const most = api.MaxDelay
	for _, x := range []struct {
		interval int64
		rate     string
		k        int
		most     int64
		want     int64
	}{
		{2, "15e-1", 1, 0, 2}, {2, "15e-1", 4, 0, 6}, {3, "2e0", 5, 20, 20}, {1, "2e0", 100, 0, 2147483648}, {5, "5e-1", 3, 0, 5}, {-5, "2e0", 3, 0, 0}, {10, "10000000019e-10", 2, 0, 10}, {1, "5e3", 2, 0, 1000},
		// interval
		{0, "1e3", 100, 0, 0}, {math.MinInt64, "2e0", 9, 5, 0}, {math.MaxInt64, "1e0", 1, 0, most}, {math.MaxInt64, "2e0", 100, 7, 7}, {most - 1, "1e0", 1, 0, most - 1}, {most, "1e0", 1, 0, most}, {most + 1, "1e0", 1, 0, most}, {most - 1, "1e0", 100, 0, most - 1},
		// rate
		{5, "-2e0", 9, 0, 5}, {5, "e0", 9, 0, 5}, {5, "1e10000", 9, 0, 5}, {5, "9999999999e-10", 100, 0, 5}, {1, "1e3", 2, 0, 1000}, {1, "1001e0", 2, 0, 1000}, {1, "10000000001e-7", 2, 0, 1000}, {1, "1e9999", 3, 0, 1000000}, {1, "1e9999", 4, 0, 1000000000}, {1, "1e9999", 5, 0, most},
		{1000000000, "1000000001e-9", 2, 0, 1000000001}, {1000000000, "10000000019e-10", 2, 0, 1000000001}, {1000000000, "10000000009e-10", 2, 0, 1000000000}, {1, "9999999999999e-10", 2, 0, 999}, {1000000, "9999999999999e-10", 2, 0, 999999999}, {1000000000, "2" + noughts(8) + "09e-10", 2, 0, 2000000000}, {3, "20x0e-2", 3, 0, 12},
		{1, "1" + noughts(10009) + "5e-10", 2, 0, 1000}, {1, "-1" + noughts(10009) + "5e-10", 2, 0, 1}, {1, "1" + noughts(15000) + "5e-9999", 2, 0, 1000}, {3, "2" + noughts(9998) + "1e-9999", 2, 0, 6}, {3, "1e-9999", 2, 0, 3},
		// k
		{7, "2e0", 0, 0, 7}, {7, "2e0", -3, 0, 7}, {7, "2e0", math.MinInt, 0, 7}, {7, "2e0", 2, 0, 14}, {1000000, "101e-2", 100, 0, 2678033}, {1000000, "101e-2", 101, 0, 2678033}, {1000000, "101e-2", math.MaxInt, 0, 2678033}, {1000000, "101e-2", 99, 0, 2651518}, {1, "2e0", 31, 0, 1 << 30}, {1, "2e0", 32, 0, most}, {1, "2e0", 33, 0, most},
		// most
		{7, "11e-1", 1, 6, 6}, {7, "11e-1", 1, 7, 7}, {7, "11e-1", 1, 8, 7}, {7, "11e-1", 2, 8, 7}, {7, "11e-1", 3, 8, 8}, {7, "11e-1", 4, 8, 8}, {7, "1e0", 1, 1, 1}, {7, "2e0", 2, -1, 14}, {7, "2e0", 2, math.MinInt64, 14}, {1, "2e0", 40, most, most}, {1, "2e0", 40, most - 1, most - 1}, {1, "2e0", 40, most + 1, most}, {1, "2e0", 40, math.MaxInt64, most}, {1 << 62, "1e0", 1, 1 << 40, most},
	} {
		if got := dec.Delay(x.interval, told(x.rate), x.k, x.most); got != x.want {
			t.Errorf("Delay(%d, %s, %d, %d): %d, want %d", x.interval, brief(told(x.rate)), x.k, x.most, got, x.want)
		}
	}
}
